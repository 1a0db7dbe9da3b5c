/- Texts of the proof, one behind the other. -/
import Derived.Test.YtdjmjhlbjcgoiaaGreatDoorOwn4
import Derived.Test.YtdjmjhlbjcgoiaaGreatDoorOwn5
import Derived.Test.YtdjmjhlbjcgoiaaGreatDoorOwn14
import Derived.Test.YtdjmjhlbjcgoiaaGreatDoorOwn1
import Derived.Test.YtdjmjhlbjcgoiaaGreatDoorOwn17
set_option maxRecDepth 1000000
set_option maxHeartbeats 6400000
namespace Go.Proofs.YtdjmjhlbjcgoiaaGreatDoor
open Go.RowKit Go.Maps Go.BigFrame
theorem docIn_all {sig : List Sy} (ha : ArOk sig) (l : List Ip) : docIn sig [] l = inGo sig (fun _ => false) l := by
 rw [docIn_in ha List.nodup_nil (fun x hx => by cases hx)]
 congr 1
theorem refCheck12_any (sv lv : Value) (sig : List Sy) (l : List Ip) (w : World) (hs : Sg w sv sig) (hl : Ins w lv l) :
  Calls Tryz.prog 12 #[sv, lv] w fun e w' => e = .returned (.int .i64 (inE sig l)) ∧ Below w.heap.size w w' := by
 have HCs := hid (xEV sv sig w hs)
 obtain ⟨so, sc, rfl, hso, hsc, _⟩ := Row.flat hs
 obtain ⟨lo, lc, rfl, hlo, hlc, _⟩ := Row.flat hl
 unfold maxLen at hsc hlc
 have HS := hid hs
 have HL := hid hl
 clear hs hl
 go_enter Tryz.func12, Tryz.ntmps12
 go_wp2_with fail
 refine HCs.out.mono ?_
 rintro e w1 ⟨rfl, hb1⟩
 have B1 := hid hb1
 clear hb1 HCs
 by_cases hE : sigE sig = 0
 ·have hAr := sigE_ok hE
  have HE : Hid (inE sig l = docIn sig [] l) := by show _ = _; unfold inE; rw [if_pos hE, docIn_all hAr]
  have HAr := hid hAr
  rw [hE]
  clear hE hAr
  go_wp2
  go_loopw [6] (fun x wr => ∃ k : Nat, k ≤ l.length ∧ x = .int .i64 k ∧ docIn sig [] l = docIn sig ((l.take k).map (·.1)).reverse (l.drop k) ∧ Below w.heap.size w wr) (fun x _ => l.length - (intOf x).toNat)
  case atStart => exact ⟨0, Nat.zero_le _, rfl, rfl, B1.out⟩
  case round =>
   clear B1
   obtain ⟨k, hk, rfl, hgo, hbl⟩ := hrel
   have HO := hid hgo
   have BL := hid hbl
   clear hgo hbl
   by_cases hlt : k < l.length
   ·obtain ⟨g, off, c, p, a1, c1, rfl, hm, hc0w, hc1w, hp, hcl, hcu, hp1, hp2⟩ := HL.out.at hlt
    have HD := hid (HO.out.trans (by rw [xAR hm, docIn]))
    have HM := hid hm
    have HP := hid hp
    have x0 := (zK BL.out).cell _ _ hc0w
    have x1 := (zK BL.out).cell _ _ hc1w
    clear HO hm hp hc0w hc1w
    by_cases hneg : c < 0
    ·have hd : decide (c < 0) = true := decide_eq_true hneg
     have HR : Hid (inE sig l = 120) := by show _ = _; rw [HE.out, HD.out, if_pos (Or.inl hneg)]
     clear HD x1
     go_wp2
     go_ret
     exact ⟨ret1i HR.out.symm, BL.out⟩
    by_cases hbig : (sig.length : Int) ≤ c
    ·have hd : decide (c < 0) = false := decide_eq_false hneg
     have hd2 : decide ((sig.length : Int) ≤ c) = true := decide_eq_true hbig
     have HR : Hid (inE sig l = 120) := by show _ = _; rw [HE.out, HD.out, if_pos (Or.inr hbig)]
     clear HD x1
     go_wp2
     go_ret
     exact ⟨ret1i HR.out.symm, BL.out⟩
    obtain ⟨ci, rfl⟩ := Int.eq_ofNat_of_zero_le (Int.not_lt.1 hneg)
    have hci : ci < sig.length := by omega
    have HD2 := hid (HD.out.trans (by rw [if_neg (by rintro (h | h); exact hneg h; exact hbig h)]))
    have hd : decide ((ci : Int) < 0) = false := decide_eq_false hneg
    have hd2 : decide (sig.length ≤ ci) = false := decide_eq_false (by omega)
    clear HD hneg hbig
    have X0 := hid x0
    have X1 := hid x1
    clear x1
    go_wp2
    clear x0 hd hd2
    go_loopw [7] (fun x wy => ∃ j : Nat, j ≤ k ∧ x = .int .i64 j ∧ (∀ (m : Nat) y, m < j → l[m]? = some y → ¬ y.1 = (ci : Int)) ∧ ∃ n, wy = wr.drewN n) (fun x _ => k - (intOf x).toNat)
    case atStart => exact ⟨0, Nat.zero_le _, rfl, fun m y h => absurd h (by omega), 0, rfl⟩
    case round =>
     obtain ⟨j, hj, rfl, hjs, n, hwy⟩ := hrel
     have HJ := hid hjs
     clear hjs
     subst hwy
     by_cases hjk : j < k
     ·obtain ⟨g', off', d, p', a1', c1', hgg, hm', hd0, _, _, hdl, hdu, _, _⟩ := HL.out.at (Nat.lt_trans hjk hlt)
      cases hgg
      have z0 := (zK BL.out).cell _ _ hd0
      have x0 := X0.out
      have HM' := hid hm'
      clear hm' hd0
      by_cases hdc : d = (ci : Int)
      ·have HR : Hid (inE sig l = 120) := by
        show _ = _
        rw [HE.out, HD2.out, if_pos (yZ.2 (yL.2 ⟨(d, p'), zD (by rw [List.getElem?_take_of_lt hjk]; exact HM'.out), hdc⟩))]
       subst hdc
       go_wp2
       go_quiet (fail)
       go_wp2
       go_ret
       exact ⟨ret1i HR.out.symm, zS BL.out (zS (xAX rfl) (xAX rfl))⟩
      have hne : (d == (ci : Int)) = false := by simpa using hdc
      have HJn : Hid (∀ (m : Nat) y, m < j + 1 → l[m]? = some y → ¬ y.1 = (ci : Int)) := fun m y hm hy => by
       rcases Nat.lt_succ_iff_lt_or_eq.1 hm with h | h
       ·exact HJ.out m y h hy
       subst h
       rw [HM'.out] at hy
       cases hy
       exact hdc
      go_wp2
      go_quiet (fail)
      go_wp2
      go_roundw
      case rel => exact ⟨j + 1, hjk, by go_num, HJn.out, _, rfl⟩
      case measure => simp [intOf] <;> omega
     obtain rfl : j = k := by omega
     have HNm : Hid (¬ (ci : Int) ∈ ((l.take j).map (·.1)).reverse) := fun hm => by
      obtain ⟨y, hy, e⟩ := yL.1 (yZ.1 hm)
      obtain ⟨m, hm2⟩ := zW.1 hy
      have hmj : m < j := by
       have := (zB.1 hm2).1
       rw [zH] at this
       omega
      rw [List.getElem?_take_of_lt hmj] at hm2
      exact HJ.out m y hmj hm2 e
     obtain ⟨gs, os, sn, ar, rfl, hsm, _, hsa, hal, hau, _⟩ := HS.out.at hci
     have HArI : Hid (arI sig (ci : Int) = ar) := by show _ = _; unfold arI; rw [Int.toNat_natCast, hsm]
     have HD3 : Hid (docIn sig [] l = if checkE p ar = 2 then 2 else if checkE p ar ≠ 0 then 121 else docIn sig ((l.take (j + 1)).map (·.1)).reverse (l.drop (j + 1))) := by
      show _ = _
      rw [HD2.out, if_neg HNm.out, HArI.out, xAM HM.out]
      simp only [yI, yW, List.map_nil, List.reverse_append, List.reverse_cons, List.reverse_nil, yH, yG]
     obtain ⟨W, hW⟩ : ∃ X, X = wr.drewN n := ⟨_, rfl⟩
     have KW : Hid (Below wr.heap.size wr W) := hid (xAX hW)
     have BW := hid (zS BL.out KW.out)
     have x0 := (zK KW.out).cell _ _ X0.out
     have x1 := (zK KW.out).cell _ _ X1.out
     have x2 := (zK BW.out).cell _ _ hsa
     clear HD2 HNm HJ hsm hsa HArI X0 X1
     rw [← hW]
     clear hW KW
     go_upto_region 14 with fail
     have hS : Kp W W.drew := zK (xAG W)
     refine wp_region_held_drew (S := fun w' => Kp W w') (by kernel_rfl) hS (fun _ => ?_)
     obtain ⟨W0, hW0⟩ : ∃ X, X = W.drew := ⟨_, rfl⟩
     have bW0 : Below W.heap.size W W0 := by rw [hW0]; exact xAG W
     rw [← hW0] at hS ⊢
     clear hW0
     refine wpAnyH_take (i := 0) (v := .slice (some ⟨g, off, none⟩) l.length lc) rfl (by kernel_rfl) (by kernel_rfl) (by kernel_rfl) (fun _ _ _ h => h) (Or.inl ⟨by rfl, fun w' h => by go_simp⟩) hS ?_
     try simp only [Act.put, sA]
     refine wpAnyH_take (i := 1) (v := .int .i64 (j : Int)) rfl (by kernel_rfl) (by kernel_rfl) (by kernel_rfl) (fun _ _ _ h => h) (Or.inl ⟨by rfl, fun w' h => by go_simp⟩) hS ?_
     try simp only [Act.put]
     refine wpAnyH_take (i := 2) (v := .pointer (some ⟨g, off + j * 2, none⟩)) rfl (by kernel_rfl) (by kernel_rfl) (by kernel_rfl) (fun _ _ _ h => h) (Or.inl ⟨by rfl, fun w' h => by go_simp⟩) hS ?_
     try simp only [Act.put]
     refine wpAnyH_take (i := 3) (v := .pointer (some ⟨g, off + j * 2 + 1, none⟩)) rfl (by kernel_rfl) (by kernel_rfl) (by kernel_rfl) (fun _ _ _ h => h) (Or.inl ⟨by rfl, fun w' h => by go_simp⟩) hS ?_
     try simp only [Act.put]
     refine wpAnyH_take (i := 4) (v := .slice a1 p.length c1) rfl (by kernel_rfl) (by kernel_rfl) (by kernel_rfl) (fun _ _ _ h => h) (Or.inl ⟨by rfl, fun w' h => by have hh := h.cell _ _ x1; go_simp⟩) hS ?_
     try simp only [Act.put]
     refine wpAnyH_take (i := 5) (v := .slice (some ⟨gs, os, none⟩) sig.length sc) rfl (by kernel_rfl) (by kernel_rfl) (by kernel_rfl) (fun _ _ _ h => h) (Or.inl ⟨by rfl, fun w' h => by go_simp⟩) hS ?_
     try simp only [Act.put]
     refine wpAnyH_take (i := 6) (v := .slice (some ⟨g, off, none⟩) l.length lc) rfl (by kernel_rfl) (by kernel_rfl) (by kernel_rfl) (fun _ _ _ h => h) (Or.inl ⟨by rfl, fun w' h => by go_simp⟩) hS ?_
     try simp only [Act.put]
     refine wpAnyH_take (i := 7) (v := .int .i64 (j : Int)) rfl (by kernel_rfl) (by kernel_rfl) (by kernel_rfl) (fun _ _ _ h => h) (Or.inl ⟨by rfl, fun w' h => by go_simp⟩) hS ?_
     try simp only [Act.put]
     refine wpAnyH_take (i := 8) (v := .pointer (some ⟨g, off + j * 2, none⟩)) rfl (by kernel_rfl) (by kernel_rfl) (by kernel_rfl) (fun _ _ _ h => h) (Or.inl ⟨by rfl, fun w' h => by go_simp⟩) hS ?_
     try simp only [Act.put]
     refine wpAnyH_take (i := 9) (v := .pointer (some ⟨g, off + j * 2, none⟩)) rfl (by kernel_rfl) (by kernel_rfl) (by kernel_rfl) (fun _ _ _ h => h) (Or.inl ⟨by rfl, fun w' h => by go_simp⟩) hS ?_
     try simp only [Act.put]
     refine wpAnyH_take (i := 10) (v := .int .i64 (ci : Int)) rfl (by kernel_rfl) (by kernel_rfl) (by kernel_rfl) (fun _ _ _ h => h) (Or.inl ⟨by rfl, fun w' h => by have hh := h.cell _ _ x0; go_simp⟩) hS ?_
     try simp only [Act.put]
     refine wpAnyH_take (i := 11) (v := .pointer (some ⟨gs, os + ci * 2, none⟩)) rfl (by kernel_rfl) (by kernel_rfl) (by kernel_rfl) (fun _ _ _ h => h) (Or.inl ⟨by rfl, fun w' h => by go_simp⟩) hS ?_
     try simp only [Act.put]
     refine wpAnyH_take (i := 12) (v := .pointer (some ⟨gs, os + ci * 2 + 1, none⟩)) rfl (by kernel_rfl) (by kernel_rfl) (by kernel_rfl) (fun _ _ _ h => h) (Or.inl ⟨by rfl, fun w' h => by go_simp⟩) hS ?_
     try simp only [Act.put]
     refine wpAnyH_take (i := 13) (v := .int .i64 ar) rfl (by kernel_rfl) (by kernel_rfl) (by kernel_rfl) (fun _ _ _ h => h) (Or.inl ⟨by rfl, fun w' h => by have hh := h.cell _ _ x2; go_simp⟩) hS ?_
     try simp only [Act.put]
     refine wpAnyH_ready (rs := [14]) (by kernel_rfl) (by simp) (AllReadyH.cons rfl (fun K hK => ?_) (AllReadyH.nil))
     go_simp
     refine (refCheck_anyY _ p ar W0 (HP.out.kp ((zK BW.out).trans hS)) hal hau).mono ?_
     rintro e w4 ⟨rfl, hb4⟩
     have B4 := hid (zS BW.out (zS bW0 hb4))
     have hS4 := hS.trans (zK hb4)
     refine hK.out _ _ hS4 (fun _ => ?_)
     clear hK K hS hb4 bW0 x0 x1 x2
     have hS := hS4
     clear hS4
     try simp only [Act.put, sA]
     rw [checkR_eq]
     generalize hz : checkE p ar = z at HD3 ⊢
     clear hz
     refine wpAnyH_take (i := 15) (v := .int .i64 z) rfl (by kernel_rfl) (by kernel_rfl) (by kernel_rfl) (fun _ _ _ h => h) (Or.inl ⟨by rfl, fun w' h => by go_simp⟩) hS ?_
     refine wpAnyH_done (by kernel_rfl) ?_ _
     try simp only [Act.put, sD, sE, sF, sA, sC, sB]
     clear hS
     by_cases h2 : z = 2
     ·subst h2
      have HR : Hid (inE sig l = 2) := by show _ = _; rw [HE.out, HD3.out, if_pos rfl]
      go_wp2
      go_ret
      exact ⟨ret1i HR.out.symm, B4.out⟩
     have hn2 : (z == 2) = false := by simpa using h2
     have hd2 : decide (z = 2) = false := decide_eq_false h2
     by_cases h0 : z = 0
     ·subst h0
      have HN : Hid (docIn sig [] l = docIn sig ((l.take (j + 1)).map (·.1)).reverse (l.drop (j + 1))) := by show _ = _; rw [HD3.out, if_neg (by decide), if_neg (by decide)]
      clear h2 HD3
      go_wp2
      go_roundw
      case rel => exact ⟨j + 1, hlt, by go_num, HN.out, B4.out⟩
      case measure => simp [intOf] <;> omega
     have hne0 : (z != 0) = true := by rw [bne_iff_ne]; exact h0
     have HR : Hid (inE sig l = 121) := by show _ = _; rw [HE.out, HD3.out, if_neg h2, if_pos h0]
     clear HD3
     go_wp2
     go_ret
     exact ⟨ret1i HR.out.symm, B4.out⟩
   obtain rfl : k = l.length := by omega
   have HR : Hid (inE sig l = if l.length = sig.length then 0 else 120) := by
    show _ = _
    rw [HE.out, HO.out, List.drop_length, docIn, yX, zJ, zH, Nat.min_self]
   clear HO
   by_cases he : l.length = sig.length
   ·have hne : ((l.length : Int) != (sig.length : Int)) = false := by simp; omega
    have HR2 : Hid (inE sig l = 0) := by show _ = _; rw [HR.out, if_pos he]
    clear he HR
    go_wp2
    go_ret
    exact ⟨ret1i HR2.out.symm, BL.out⟩
   have hne : ((l.length : Int) != (sig.length : Int)) = true := by rw [bne_iff_ne]; omega
   have HR2 : Hid (inE sig l = 120) := by show _ = _; rw [HR.out, if_neg he]
   clear he HR
   go_wp2
   go_ret
   exact ⟨ret1i HR2.out.symm, BL.out⟩
 have HE : Hid (inE sig l = sigE sig) := by show _ = _; unfold inE; rw [if_neg hE]
 have hne : (sigE sig != 0) = true := by rw [bne_iff_ne]; exact hE
 clear hE
 generalize hz : sigE sig = z at hne HE ⊢
 clear hz
 go_wp2
 go_ret
 exact ⟨ret1i HE.out.symm, B1.out⟩
abbrev Rx := Int × Int
def fk (k : Int) (l : List Rx) : List Rx := l.filter fun x => decide (x.1 = k)
def Fil (a b : List Rx) : Prop := ∀ k, fk k a = fk k b
theorem fk_app (k : Int) (a b : List Rx) : fk k (a ++ b) = fk k a ++ fk k b := by unfold fk; rw [List.filter_append]
theorem Fil.refl (a : List Rx) : Fil a a := fun _ => rfl
theorem Fil.symm {a b : List Rx} (h : Fil a b) : Fil b a := fun k => (h k).symm
theorem Fil.trans {a b c : List Rx} (h : Fil a b) (h' : Fil b c) : Fil a c := fun k => (h k).trans (h' k)
theorem Fil.app {a b c d : List Rx} (h : Fil a b) (h' : Fil c d) : Fil (a ++ c) (b ++ d) := fun k => by rw [fk_app, fk_app, h k, h' k]
theorem fk_mem {x : Rx} {l : List Rx} : x ∈ l ↔ x ∈ fk x.1 l := by unfold fk; rw [List.mem_filter]; simp
theorem Fil.mem {a b : List Rx} (h : Fil a b) {x : Rx} : x ∈ a ↔ x ∈ b := fk_mem.trans ((by rw [h x.1] : x ∈ fk x.1 a ↔ x ∈ fk x.1 b).trans fk_mem.symm)
theorem fil_swap {a b : List Rx} (h : ∀ x ∈ a, ∀ y ∈ b, x.1 ≠ y.1) : Fil (a ++ b) (b ++ a) := fun k => by
 rw [fk_app, fk_app]
 by_cases ha : fk k a = []
 ·rw [ha, yH, zV]
 have hb : fk k b = [] := by
  obtain ⟨x, hx⟩ := List.exists_mem_of_ne_nil _ ha
  unfold fk at hx ⊢
  rw [List.mem_filter, yY] at hx
  rw [List.filter_eq_nil_iff]
  intro y hy hk
  rw [yY] at hk
  exact h x hx.1 y hy (by rw [hx.2, hk])
 rw [hb, yH, zV]
def UpS (l : List Rx) : Prop := l.Pairwise fun x y => x.1 ≤ y.1
theorem up_one : ∀ {a b : List Rx}, UpS a → UpS b → Fil a b → a = b
 | [], b, _, _, h => by
  cases b with
  | nil => rfl
  | cons y b => exact absurd (h.mem.2 (show y ∈ y :: b by simp)) (by simp)
 | x :: a, [], _, _, h => absurd (h.mem.1 (show x ∈ x :: a by simp)) (by simp)
 | x :: a, y :: b, ha, hb, h => by
  unfold UpS at ha hb
  rw [List.pairwise_cons] at ha hb
  have hk : x.1 = y.1 := by
   have h1 : y.1 ≤ x.1 := by
    rcases yB.1 (h.mem.1 (show x ∈ x :: a by simp)) with e | e
    ·rw [e]; exact Int.le_refl _
    exact hb.1 x e
   have h2 : x.1 ≤ y.1 := by
    rcases yB.1 (h.mem.2 (show y ∈ y :: b by simp)) with e | e
    ·rw [e]; exact Int.le_refl _
    exact ha.1 y e
   omega
  have hxy : x = y ∧ fk x.1 a = fk x.1 b := by
   have h9 := h x.1
   unfold fk at h9 ⊢
   rw [List.filter_cons_of_pos (by simp), List.filter_cons_of_pos (by simp [hk])] at h9
   exact List.cons.inj h9
  rw [← hxy.1, up_one ha.2 hb.2 fun k => ?_]
  by_cases e : k = x.1
  ·rw [e]; exact hxy.2
  have h9 := h k
  unfold fk at h9 ⊢
  rw [List.filter_cons_of_neg (by simpa using fun h => e h.symm), List.filter_cons_of_neg (by rw [← hk]; simpa using fun h => e h.symm)] at h9
  exact h9
def UpI (d : List Rx) (a b : Nat) : Prop := ∀ i j x y, a ≤ i → i < j → j < b → d[i]? = some x → d[j]? = some y → x.1 ≤ y.1
theorem UpI.up {d : List Rx} (h : UpI d 0 d.length) : UpS d := by
 unfold UpS
 rw [List.pairwise_iff_getElem]
 intro i j hi hj hij
 exact h i j _ _ (Nat.zero_le _) hij hj (zC hi) (zC hj)
theorem UpI.sub {d : List Rx} {a b a' b' : Nat} (h : UpI d a b) (h1 : a ≤ a') (h2 : b' ≤ b) : UpI d a' b' := fun i j x y hi hij hj => h i j x y (by omega) hij (by omega)
theorem UpI.same {d d' : List Rx} {a b : Nat} (h : UpI d a b) (he : ∀ k, a ≤ k → k < b → d'[k]? = d[k]?) : UpI d' a b := fun i j x y hi hij hj hx hy =>
 h i j x y hi hij hj (by rw [← he i hi (by omega)]; exact hx) (by rw [← he j (by omega) hj]; exact hy)
theorem four {d : List Rx} {a m b : Nat} (h1 : a ≤ m) (h2 : m ≤ b) (h3 : b ≤ d.length) :
  ∃ X U V Y, d = X ++ U ++ V ++ Y ∧ X.length = a ∧ U.length = m - a ∧ V.length = b - m ∧ (∀ x ∈ U, ∃ k, a ≤ k ∧ k < m ∧ d[k]? = some x) ∧ (∀ x ∈ V, ∃ k, m ≤ k ∧ k < b ∧ d[k]? = some x) := by
 refine ⟨d.take a, (d.drop a).take (m - a), (d.drop m).take (b - m), d.drop b, ?_, by rw [zH]; omega, by rw [zH, zI]; omega, by rw [zH, zI]; omega, fun x hx => ?_, fun x hx => ?_⟩
 ·have e1 : (d.drop m).take (b - m) ++ d.drop b = d.drop m := by
   have := zQ (b - m) (d.drop m)
   rw [yS, show m + (b - m) = b by omega] at this
   exact this
  have e2 : (d.drop a).take (m - a) ++ d.drop m = d.drop a := by
   have := zQ (m - a) (d.drop a)
   rw [yS, show a + (m - a) = m by omega] at this
   exact this
  rw [zR, e1, zR, e2, zQ]
 ·obtain ⟨k, hk⟩ := List.getElem?_of_mem hx
  have hl := (zB.1 hk).1
  rw [zH, zI] at hl
  rw [List.getElem?_take_of_lt (by omega), List.getElem?_drop] at hk
  exact ⟨a + k, by omega, by omega, hk⟩
 obtain ⟨k, hk⟩ := List.getElem?_of_mem hx
 have hl := (zB.1 hk).1
 rw [zH, zI] at hl
 rw [List.getElem?_take_of_lt (by omega), List.getElem?_drop] at hk
 exact ⟨m + k, by omega, by omega, hk⟩
theorem prC_set : ∀ (us : List (Value × Value)) (i : Nat) (q : Value × Value), prC (us.set i q) = ((prC us).set (i * 2) q.1).set (i * 2 + 1) q.2
 | [], i, q => by simp [prC]
 | p :: us, 0, q => by simp [prC]
 | p :: us, i + 1, q => by
  have h := prC_set us i q
  have e : ∀ (x : Value × Value) (l : List (Value × Value)), prC (x :: l) = x.1 :: x.2 :: prC l := fun x l => by simp [prC]
  rw [sC, e, e, h, show (i + 1) * 2 = i * 2 + 1 + 1 by omega]
  rfl
theorem own_swap2 {w X : World} {base g n cap : Nat} {e : TypeId} {us : List (Value × Value)} (h : w.ownsRow base e 2 (.slice (some ⟨g, 0, none⟩) n cap) n (prC us)) {i j : Nat} {p q : Value × Value}
  (hX : ((((w.setCell ⟨g, i * 2, none⟩ q.1).setCell ⟨g, i * 2 + 1, none⟩ q.2).setCell ⟨g, j * 2, none⟩ p.1).setCell ⟨g, j * 2 + 1, none⟩ p.2).drew = X) :
  X.ownsRow base e 2 (.slice (some ⟨g, 0, none⟩) n cap) n (prC ((us.set i q).set j p)) ∧ X.heap.size = w.heap.size ∧ (∀ k, k ≠ g → X.heap[k]? = w.heap[k]?) ∧ ∀ b w0, b ≤ g → Below b w0 w → Below b w0 X := by
 subst hX
 refine ⟨?_, by simp, fun k hk => ?_, fun b w0 hle hb => ?_⟩
 ·rw [prC_set, prC_set]
  exact (World.ownsRow.stored (World.ownsRow.stored (World.ownsRow.stored (World.ownsRow.stored h (i * 2) q.1).1 (i * 2 + 1) q.2).1 (j * 2) p.1).1 (j * 2 + 1) p.2).1
 ·show (World.setCell _ _ _).heap[k]? = _
  rw [heap_setCell_other _ _ _ _ hk, heap_setCell_other _ _ _ _ hk, heap_setCell_other _ _ _ _ hk, heap_setCell_other _ _ _ _ hk]
 exact ((((hb.setCell (p := ⟨g, i * 2, none⟩) hle _).setCell (p := ⟨g, i * 2 + 1, none⟩) hle _).setCell (p := ⟨g, j * 2, none⟩) hle _).setCell (p := ⟨g, j * 2 + 1, none⟩) hle _).drew
theorem own_cells2 {w : World} {base g n cap : Nat} {e : TypeId} {us : List (Value × Value)} (h : w.ownsRow base e 2 (.slice (some ⟨g, 0, none⟩) n cap) n (prC us)) (hl : us.length = n) {i : Nat} {p : Value × Value} (hi : us[i]? = some p) :
  w.cell? ⟨g, i * 2, none⟩ = some p.1 ∧ w.cell? ⟨g, i * 2 + 1, none⟩ = some p.2 ∧ w.frozen? ⟨g, i * 2, none⟩ = false ∧ w.frozen? ⟨g, i * 2 + 1, none⟩ = false := by
 have hlt : i < us.length := (zB.1 hi).1
 obtain ⟨h1, h2⟩ := prC_at us i p hi
 rcases h.2 with ⟨hv, _⟩ | ⟨g', cap', cur, hv, hb, hg, r⟩
 ·cases hv
 cases hv
 refine ⟨?_, ?_, frozen_of_row _ _ _ _ _ hg, frozen_of_row _ _ _ _ _ hg⟩
 ·rw [World.ownsRow.cellAt h (i * 2) (by omega)]
  exact h1
 rw [World.ownsRow.cellAt h (i * 2 + 1) (by omega)]
 exact h2
def rxV (x : Rx) : Value × Value := (.int .i64 x.1, .int .i64 x.2)
def RxOk (d : List Rx) : Prop := ∀ x ∈ d, (-9223372036854775808 ≤ x.1 ∧ x.1 ≤ 9223372036854775807) ∧ -9223372036854775808 ≤ x.2 ∧ x.2 ≤ 9223372036854775807
def OX (w : World) (base : Nat) (v : Value) (d : List Rx) : Prop := RxOk d ∧ w.ownsRow base 69 2 v d.length (prC (d.map rxV))
theorem OX.shape {w : World} {base : Nat} {v : Value} {d : List Rx} (h : OX w base v d) : ∃ ao cap, v = .slice ao d.length cap ∧ d.length ≤ cap ∧ cap ≤ maxLen := by
 rcases h.2.2 with ⟨rfl, hn⟩ | ⟨g, cap, cur, rfl, hb, hg, hc, hm, hs, ht⟩
 ·exact ⟨none, 0, by rw [hn], by omega, by simp [maxLen]⟩
 exact ⟨_, cap, rfl, hc, hm⟩
theorem OX.kept {w w' : World} {base : Nat} {v : Value} {d : List Rx} {row : Option Nat} (h : OX w base v d) (hg : w.grownBy w' row) (hr : v.ownBlock = none ∨ v.ownBlock ≠ row) : OX w' base v d := by
 refine ⟨h.1, h.2.1, ?_⟩
 rcases h.2.2 with h | ⟨g, cap, cur, rfl, hb, hgg, r⟩
 ·exact .inl h
 refine .inr ⟨g, cap, cur, rfl, hb, (hg.block g (zL.1 hgg).1 ?_).trans hgg, r⟩
 rcases hr with hr | hr
 ·cases hr
 exact hr
theorem OX.later {w w' : World} {base : Nat} {v : Value} {d : List Rx} (h : OX w base v d) (hb : Below w.heap.size w w') : OX w' base v d :=
 h.kept (row := none) (xAA hb none) (by cases hv : v.ownBlock <;> simp)
theorem OX.at {w : World} {base g cap : Nat} {d : List Rx} (h : OX w base (.slice (some ⟨g, 0, none⟩) d.length cap) d) {i : Nat} {x : Rx} (hx : d[i]? = some x) :
  w.cell? ⟨g, i * 2, none⟩ = some (.int .i64 x.1) ∧ w.cell? ⟨g, i * 2 + 1, none⟩ = some (.int .i64 x.2) ∧ w.frozen? ⟨g, i * 2, none⟩ = false ∧ w.frozen? ⟨g, i * 2 + 1, none⟩ = false :=
 own_cells2 (p := rxV x) h.2 (by simp) (by rw [zU, hx]; rfl)
def swp (d : List Rx) (i j : Nat) (x y : Rx) : List Rx := (d.set i y).set j x
theorem swp_len (d : List Rx) (i j : Nat) (x y : Rx) : (swp d i j x y).length = d.length := by unfold swp; simp
theorem OX.swap {w X : World} {base g cap : Nat} {d : List Rx} (h : OX w base (.slice (some ⟨g, 0, none⟩) d.length cap) d) {i j : Nat} {x y : Rx} (hx : d[i]? = some x) (hy : d[j]? = some y)
  (hX : ((((w.setCell ⟨g, i * 2, none⟩ (.int .i64 y.1)).setCell ⟨g, i * 2 + 1, none⟩ (.int .i64 y.2)).setCell ⟨g, j * 2, none⟩ (.int .i64 x.1)).setCell ⟨g, j * 2 + 1, none⟩ (.int .i64 x.2)).drew = X) :
  OX X base (.slice (some ⟨g, 0, none⟩) d.length cap) (swp d i j x y) ∧ w.grownBy X (some g) := by
 obtain ⟨x1, x2, x3, _⟩ := own_swap2 (p := rxV x) (q := rxV y) h.2 hX
 refine ⟨⟨fun z hz => ?_, ?_⟩, ?_⟩
 ·unfold swp at hz
  rcases List.mem_or_eq_of_mem_set hz with hz | rfl
  ·rcases List.mem_or_eq_of_mem_set hz with hz | rfl
   ·exact h.1 z hz
   exact h.1 _ (zD hy)
  exact h.1 _ (zD hx)
 ·rw [swp_len]
  unfold swp
  rw [List.map_set, List.map_set]
  exact x1
 subst hX
 exact ⟨rfl, rfl, rfl, by simp, fun k _ hk => x3 k (fun e => hk (by rw [e]))⟩
def cmpZ8 (a b : Int) : Int := if a < b then -1 else if b < a then 1 else 0
theorem cmpZ8_lt (a b : Int) : decide (cmpZ8 a b < 0) = decide (a < b) := by
 unfold cmpZ8
 by_cases h : a < b
 ·simp [h]
 by_cases h2 : b < a
 ·simp [h, h2]
 simp [h, h2]
theorem cmpInt8_any (a b : Int) (w : World) : Calls Tryz.prog 78 #[.int .i64 a, .int .i64 b] w fun e w' => e = .returned (.int .i64 (cmpZ8 a b)) ∧ w' = w := by
 by_cases h1 : a < b
 ·go_enter Tryz.func78, Tryz.ntmps78
  go_wp2
  go_ret
  exact ⟨ret1i (by simp [cmpZ8, h1]), rfl⟩
 by_cases h2 : b < a
 ·go_enter Tryz.func78, Tryz.ntmps78
  go_wp2
  go_ret
  exact ⟨ret1i (by simp [cmpZ8, h1, h2]), rfl⟩
 go_enter Tryz.func78, Tryz.ntmps78
 go_wp2
 go_ret
 exact ⟨ret1i (by rw [cmpZ8, if_neg (by omega), if_neg (by omega)]), rfl⟩
abbrev cmpF : Value := .func (.func 77) #[] #[]
theorem xCP (x y : Rx) (w : World) : Calls Tryz.prog 77 #[.agg #[.int .i64 x.1, .int .i64 x.2], .agg #[.int .i64 y.1, .int .i64 y.2]] w fun e w' => e = .returned (.int .i64 (cmpZ8 x.1 y.1)) ∧ Below w.heap.size w w' := by
 obtain ⟨w0, hw0⟩ : ∃ X, X = (w.alloc (.cells #[.int .i64 x.1, .int .i64 x.2] 69)).alloc (.cells #[.int .i64 y.1, .int .i64 y.2] 69) := ⟨_, rfl⟩
 have C0 : Hid (Below w.heap.size w w0) := by rw [hw0]; exact zS (zA _) (zA _)
 go_enter Tryz.func77, Tryz.ntmps77
 go_wp2_with fail
 rw [← hw0]
 clear hw0
 refine (cmpInt8_any _ _ w0).mono ?_
 rintro e w1 ⟨rfl, hw1⟩
 have hw8 := hw1.symm
 subst hw8
 clear hw1
 go_wp2
 go_ret
 exact ⟨rfl, C0.out⟩
theorem swp_mid {X M Y : List Rx} {x y : Rx} {i j : Nat} (hi : i = X.length) (hj : j = X.length + 1 + M.length) : swp (X ++ x :: M ++ y :: Y) i j x y = X ++ y :: M ++ x :: Y := by
 subst hi hj
 unfold swp
 rw [zR, List.set_append_right _ _ (Nat.le_refl _), Nat.sub_self, yG, sB, List.set_append_right _ _ (by omega), show X.length + 1 + M.length - X.length = M.length + 1 by omega, sC, List.set_append_right _ _ (Nat.le_refl _), Nat.sub_self, sB, zR, yG]
theorem xEG (g cap base P Q L n : Nat) (X A M B Y : List Rx) (w : World) (cv : Value) (hA : A.length = n) (hB : B.length = n) (hP : X.length = P) (hQ : P + n + M.length = Q) (hL : Q + n + Y.length = L) (h : OX w base (.slice (some ⟨g, 0, none⟩) L cap) (X ++ A ++ M ++ B ++ Y)) (hc : L ≤ cap) (hc2 : cap ≤ 9223372036854775807) :
  Calls Tryz.prog 205 #[.slice (some ⟨g, 0, none⟩) L cap, .int .i64 (P : Int), .int .i64 (Q : Int), .int .i64 (n : Int), cv] w fun e w' => e = .returned (.tuple #[]) ∧ OX w' base (.slice (some ⟨g, 0, none⟩) L cap) (X ++ B ++ M ++ A ++ Y) ∧ w.grownBy w' (some g) := by
 have HO := hid h
 clear h
 go_enter Tryz.func205, Tryz.ntmps205
 go_wp2
 go_loopw [10] (fun iv wr => ∃ k : Nat, k ≤ n ∧ iv = .int .i64 k ∧ OX wr base (.slice (some ⟨g, 0, none⟩) L cap) (X ++ (B.take k ++ A.drop k) ++ M ++ (A.take k ++ B.drop k) ++ Y) ∧ w.grownBy wr (some g)) (fun iv _ => n - (intOf iv).toNat)
 case atStart => exact ⟨0, Nat.zero_le _, rfl, by simpa using HO.out, World.grownBy.refl _ _⟩
 case round =>
  obtain ⟨k, hk, rfl, how, hgr⟩ := hrel
  have HW := hid how
  have HG := hid hgr
  clear how hgr
  by_cases hlt : k < n
  ·obtain ⟨x, hx⟩ : ∃ x, A[k]? = some x := ⟨_, zC (by omega)⟩
   obtain ⟨y, hy⟩ : ∃ y, B[k]? = some y := ⟨_, zC (by omega)⟩
   have e1 : X ++ (B.take k ++ A.drop k) ++ M ++ (A.take k ++ B.drop k) ++ Y = (X ++ B.take k) ++ x :: (A.drop (k + 1) ++ M ++ A.take k) ++ y :: (B.drop (k + 1) ++ Y) := by
    rw [xAR hx, xAR hy]
    simp
   have e2 : X ++ (B.take (k + 1) ++ A.drop (k + 1)) ++ M ++ (A.take (k + 1) ++ B.drop (k + 1)) ++ Y = (X ++ B.take k) ++ y :: (A.drop (k + 1) ++ M ++ A.take k) ++ x :: (B.drop (k + 1) ++ Y) := by
    rw [xAM hx, xAM hy]
    simp
   have hw := HW.out
   rw [e1] at hw
   obtain ⟨D, hD⟩ : ∃ D, D = (X ++ B.take k) ++ x :: (A.drop (k + 1) ++ M ++ A.take k) ++ y :: (B.drop (k + 1) ++ Y) := ⟨_, rfl⟩
   have hlD : D.length = L := by rw [hD]; simp [hA, hB, hP]; omega
   have g1 : D[P + k]? = some x := by
    rw [hD, zR, zM (by simp [hP, hB]; omega)]
    have : P + k - (X ++ B.take k).length = 0 := by simp [hP, hB]; omega
    rw [this]
    rfl
   have g2 : D[Q + k]? = some y := by
    rw [hD, zM (by simp [hP, hA, hB]; omega)]
    have : Q + k - (X ++ B.take k ++ x :: (A.drop (k + 1) ++ M ++ A.take k)).length = 0 := by simp [hP, hA, hB]; omega
    rw [this]
    rfl
   have hsw : swp D (P + k) (Q + k) x y = X ++ (B.take (k + 1) ++ A.drop (k + 1)) ++ M ++ (A.take (k + 1) ++ B.drop (k + 1)) ++ Y := by
    rw [hD, e2]
    exact swp_mid (by simp [hP, hB]; omega) (by simp [hP, hA, hB]; omega)
   rw [← hD] at hw
   have hw2 := hw
   rw [← hlD] at hw2
   obtain ⟨i1, i2, i3, i4⟩ := hw2.at g1
   obtain ⟨j1, j2, j3, j4⟩ := hw2.at g2
   have HSw : Hid (∀ Z, ((((wr.setCell ⟨g, (P + k) * 2, none⟩ (.int .i64 y.1)).setCell ⟨g, (P + k) * 2 + 1, none⟩ (.int .i64 y.2)).setCell ⟨g, (Q + k) * 2, none⟩ (.int .i64 x.1)).setCell ⟨g, (Q + k) * 2 + 1, none⟩ (.int .i64 x.2)).drew = Z → OX Z base (.slice (some ⟨g, 0, none⟩) L cap) (X ++ (B.take (k + 1) ++ A.drop (k + 1)) ++ M ++ (A.take (k + 1) ++ B.drop (k + 1)) ++ Y) ∧ wr.grownBy Z (some g)) := fun Z hZ => by
    have h9 := hw2.swap g1 g2 hZ
    rw [hsw, hlD] at h9
    exact h9
   have hw1 : IntKind.i64.wrap ((P : Int) + (k : Int)) = ((P + k : Nat) : Int) := by rw [yA _ ⟨by omega, by omega⟩]; omega
   have hw3 : IntKind.i64.wrap ((Q : Int) + (k : Int)) = ((Q + k : Nat) : Int) := by rw [yA _ ⟨by omega, by omega⟩]; omega
   have hb1 : P + k < L := by omega
   have hb2 : Q + k < L := by omega
   obtain ⟨I, hI⟩ : ∃ I, I = P + k := ⟨_, rfl⟩
   obtain ⟨J, hJ⟩ : ∃ J, J = Q + k := ⟨_, rfl⟩
   have hIJ : ¬ I = J := by omega
   rw [← hI] at i1 i2 i3 i4 HSw hw1 hb1
   rw [← hJ] at j1 j2 j3 j4 HSw hw3 hb2
   have hn1 : ¬ J = I := by omega
   have hn2 : ¬ I * 2 = J * 2 := by omega
   have hn3 : ¬ J * 2 = I * 2 := by omega
   clear hI hJ hw hw2 hlD hD g1 g2 hsw e1 e2 hx hy
   go_wp2
   go_region
   generalize hZ : World.drew _ = Z
   obtain ⟨o9, g9⟩ := HSw.out _ hZ
   have O9 := hid o9
   have G9 := hid (HG.out.trans g9)
   clear hZ o9 g9 HSw i1 i2 i3 i4 j1 j2 j3 j4
   go_wp2
   go_roundw
   case rel => exact ⟨k + 1, hlt, by go_num, O9.out, G9.out⟩
   case measure => simp only [intOf]; omega
  obtain rfl : k = n := by omega
  go_wp2
  go_end0
  have h9 := HW.out
  rw [zO (by omega), zP (by omega), zO (by omega), zP (by omega), zV, zV] at h9
  exact ⟨rfl, h9, HG.out⟩
theorem rotate_any (g cap base a m b L : Nat) (X U V Y : List Rx) (w : World) (cv : Value) (hX : X.length = a) (hU : a + U.length = m) (hV : m + V.length = b) (hL : b + Y.length = L) (hU0 : 0 < U.length) (hV0 : 0 < V.length) (h : OX w base (.slice (some ⟨g, 0, none⟩) L cap) (X ++ U ++ V ++ Y)) (hc : L ≤ cap) (hc2 : cap ≤ 9223372036854775807) :
  Calls Tryz.prog 191 #[.slice (some ⟨g, 0, none⟩) L cap, .int .i64 (a : Int), .int .i64 (m : Int), .int .i64 (b : Int), cv] w fun e w' => e = .returned (.tuple #[]) ∧ OX w' base (.slice (some ⟨g, 0, none⟩) L cap) (X ++ V ++ U ++ Y) ∧ w.grownBy w' (some g) := by
 have HO := hid h
 have hu : IntKind.i64.wrap ((m : Int) - (a : Int)) = ((U.length : Nat) : Int) := by rw [yA _ ⟨by omega, by omega⟩]; omega
 have hv : IntKind.i64.wrap ((b : Int) - (m : Int)) = ((V.length : Nat) : Int) := by rw [yA _ ⟨by omega, by omega⟩]; omega
 clear h
 go_enter Tryz.func191, Tryz.ntmps191
 go_wp2
 go_loopw [10, 11] (fun iv jv wr => ∃ (i j : Nat) (P A B Q : List Rx), iv = .int .i64 i ∧ jv = .int .i64 j ∧ A.length = i ∧ B.length = j ∧ 0 < i ∧ 0 < j ∧ a + P.length + i = m ∧ m + j + Q.length = b ∧ P ++ B ++ A ++ Q = V ++ U ∧ OX wr base (.slice (some ⟨g, 0, none⟩) L cap) (X ++ P ++ A ++ B ++ Q ++ Y) ∧ w.grownBy wr (some g)) (fun iv jv _ => (intOf iv).toNat + (intOf jv).toNat)
 case atStart => exact ⟨U.length, V.length, [], U, V, [], rfl, rfl, rfl, rfl, hU0, hV0, by simp; omega, by simp; omega, by simp, by simpa using HO.out, World.grownBy.refl _ _⟩
 case round =>
  obtain ⟨i, j, P, A, B, Q, rfl, rfl, hA, hB, hi0, hj0, hP, hQ, hVU, how, hgr⟩ := hrel
  clear hu hv
  have HW := hid how
  have HG := hid hgr
  have HVU := hid hVU
  clear how hgr hVU
  have hm1 : IntKind.i64.wrap ((m : Int) - (i : Int)) = ((a + P.length : Nat) : Int) := by rw [yA _ ⟨by omega, by omega⟩]; omega
  obtain ⟨S, hS⟩ : ∃ S, S = a + P.length := ⟨_, rfl⟩
  rw [← hS] at hm1
  have HE := hid (show (A.length = i ∧ B.length = j) ∧ a + P.length + i = m ∧ m + j + Q.length = b from ⟨⟨hA, hB⟩, hP, hQ⟩)
  by_cases hij : i = j
  ·subst hij
   have hne : ((i : Int) != (i : Int)) = false := by simp
   have h1 := hid (xEG g cap base S m L i (X ++ P) A [] B (Q ++ Y) wr cv hA hB (by simp; omega) (by simp; omega) (by simp; omega) (by simpa using HW.out) hc hc2)
   clear hA hB hP hQ hS hX hU hV hL
   go_wp2_with fail
   refine h1.out.mono ?_
   rintro e w1 ⟨rfl, o1, g1⟩
   have O1 : Hid (OX w1 base (.slice (some ⟨g, 0, none⟩) L cap) (X ++ V ++ U ++ Y)) := by
    have h9 := HVU.out
    show OX _ _ _ _
    rw [zR X V U, ← h9]
    simpa using o1
   have G1 := hid (HG.out.trans g1)
   clear o1 g1 h1
   go_wp2
   go_end0
   exact ⟨rfl, O1.out, G1.out⟩
  have hne : ((i : Int) != (j : Int)) = true := by rw [bne_iff_ne]; omega
  by_cases hgt : j < i
  ·have hd : decide ((i : Int) > (j : Int)) = true := by simpa using hgt
   have h1 := hid (xEG g cap base S m L j (X ++ P) (A.take j) (A.drop j) B (Q ++ Y) wr cv (by rw [zH]; omega) hB (by simp; omega) (by rw [zI]; omega) (by simp; omega) (by
    have h9 := HW.out
    rw [← zQ j A] at h9
    simpa using h9) hc hc2)
   have hij2 : IntKind.i64.wrap ((i : Int) - (j : Int)) = ((i - j : Nat) : Int) := by rw [yA _ ⟨by omega, by omega⟩]; omega
   clear hA hB hP hQ hS hX hU hV hL
   go_wp2_with fail
   refine h1.out.mono ?_
   rintro e w1 ⟨rfl, o1, g1⟩
   have O1 := hid o1
   have G1 := hid (HG.out.trans g1)
   clear o1 g1 h1
   go_wp2
   go_roundw
   case rel =>
    obtain ⟨⟨hA, hB⟩, hP, hQ⟩ := HE.out
    exact ⟨i - j, j, P ++ B, A.drop j, A.take j, Q, by go_num, rfl, by rw [zI]; omega, by rw [zH]; omega, by omega, hj0, by simp; omega, hQ, by rw [zR (P ++ B), zQ]; exact HVU.out, by simpa using O1.out, G1.out⟩
   case measure => simp only [intOf]; omega
  have hd : decide ((i : Int) > (j : Int)) = false := by simpa using (show ¬ ((i : Int) > (j : Int)) by omega)
  have hm2 : IntKind.i64.wrap (IntKind.i64.wrap ((m : Int) + (j : Int)) - (i : Int)) = ((m + j - i : Nat) : Int) := by rw [yA ((m : Int) + j) ⟨by omega, by omega⟩, yA _ ⟨by omega, by omega⟩]; omega
  have hm3 : IntKind.i64.wrap ((m : Int) + (j : Int)) = ((m + j : Nat) : Int) := by rw [yA _ ⟨by omega, by omega⟩]; omega
  have hm4 : IntKind.i64.wrap (((m + j : Nat) : Int) - (i : Int)) = ((m + j - i : Nat) : Int) := by rw [← hm3]; exact hm2
  have h1 := hid (xEG g cap base S (m + j - i) L i (X ++ P) A (B.take (j - i)) (B.drop (j - i)) (Q ++ Y) wr cv hA (by rw [zI]; omega) (by simp; omega) (by rw [zH]; omega) (by simp; omega) (by
   have h9 := HW.out
   rw [← zQ (j - i) B] at h9
   simpa using h9) hc hc2)
  have hij2 : IntKind.i64.wrap ((j : Int) - (i : Int)) = ((j - i : Nat) : Int) := by rw [yA _ ⟨by omega, by omega⟩]; omega
  generalize m + j - i = T at h1 hm2 hm4
  generalize m + j = T2 at hm3 hm4
  clear hm2 hA hB hP hQ hS hX hU hV hL
  go_wp2_with fail
  refine h1.out.mono ?_
  rintro e w1 ⟨rfl, o1, g1⟩
  have O1 := hid o1
  have G1 := hid (HG.out.trans g1)
  clear o1 g1 h1
  go_wp2
  go_roundw
  case rel =>
   obtain ⟨⟨hA, hB⟩, hP, hQ⟩ := HE.out
   exact ⟨i, j - i, P, B.drop (j - i), B.take (j - i), A ++ Q, rfl, by go_num, by rw [zI]; omega, by rw [zH]; omega, hi0, by omega, hP, by simp; omega, by rw [zR P, zQ, ← zR]; exact HVU.out, by simpa using O1.out, G1.out⟩
  case measure => simp only [intOf]; omega
theorem Fil.perm {a b : List Rx} (h : Fil a b) : a.Perm b := by
 rw [List.perm_iff_count]
 intro x
 have hc : ∀ l : List Rx, l.count x = (fk x.1 l).count x := fun l => by
  unfold fk
  rw [List.count_filter (by simp)]
 rw [hc a, hc b, h x.1]
theorem Fil.len {a b : List Rx} (h : Fil a b) : a.length = b.length := h.perm.length_eq
theorem up_last {W : List Rx} (h : UpS W) {i : Nat} {z x : Rx} (hz : W[i]? = some z) (hx : x ∈ W.take (i + 1)) : x.1 ≤ z.1 := by
 obtain ⟨k, hk⟩ := List.getElem?_of_mem hx
 have hl := (zB.1 hk).1
 rw [zH] at hl
 rw [List.getElem?_take_of_lt (by omega)] at hk
 obtain ⟨h1, rfl⟩ := zB.1 hk
 obtain ⟨h2, rfl⟩ := zB.1 hz
 rcases Nat.lt_or_eq_of_le (show k ≤ i by omega) with h3 | h3
 ·exact (List.pairwise_iff_getElem.1 h) k i h1 h2 h3
 subst h3; exact Int.le_refl _
theorem up_first {W : List Rx} (h : UpS W) {i : Nat} {z y : Rx} (hz : W[i]? = some z) (hy : y ∈ W.drop i) : z.1 ≤ y.1 := by
 obtain ⟨k, hk⟩ := List.getElem?_of_mem hy
 rw [List.getElem?_drop] at hk
 obtain ⟨h1, rfl⟩ := zB.1 hk
 obtain ⟨h2, rfl⟩ := zB.1 hz
 by_cases h3 : k = 0
 ·subst h3; exact Int.le_refl _
 exact (List.pairwise_iff_getElem.1 h) i (i + k) h2 h1 (by omega)
theorem UpS.app {a b : List Rx} (ha : UpS a) (hb : UpS b) (h : ∀ x ∈ a, ∀ y ∈ b, x.1 ≤ y.1) : UpS (a ++ b) := List.pairwise_append.2 ⟨ha, hb, h⟩
theorem UpS.left {a b : List Rx} (h : UpS (a ++ b)) : UpS a := (List.pairwise_append.1 h).1
theorem UpS.right {a b : List Rx} (h : UpS (a ++ b)) : UpS b := (List.pairwise_append.1 h).2.1
theorem UpS.mid {a b : List Rx} (h : UpS (a ++ b)) : ∀ x ∈ a, ∀ y ∈ b, x.1 ≤ y.1 := (List.pairwise_append.1 h).2.2
def Mg (U V M : List Rx) : Prop := UpS M ∧ Fil M (U ++ V)
theorem Mg.len {U V M : List Rx} (h : Mg U V M) : M.length = U.length + V.length := by rw [h.2.len, zF]
theorem mg_halves {U1 U2 V1 V2 M1 M2 : List Rx} (hU : UpS (U1 ++ U2)) (hV : UpS (V1 ++ V2)) (hlt : ∀ x ∈ V1, ∀ y ∈ U2, x.1 < y.1) (hle : ∀ x ∈ U1, ∀ y ∈ V2, x.1 ≤ y.1) (h1 : Mg U1 V1 M1) (h2 : Mg U2 V2 M2) : Mg (U1 ++ U2) (V1 ++ V2) (M1 ++ M2) := by
 refine ⟨h1.1.app h2.1 fun x hx y hy => ?_, ?_⟩
 ·rcases yE.1 (h1.2.mem.1 hx) with hx | hx <;> rcases yE.1 (h2.2.mem.1 hy) with hy | hy
  ·exact hU.mid x hx y hy
  ·exact hle x hx y hy
  ·exact Int.le_of_lt (hlt x hx y hy)
  exact hV.mid x hx y hy
 refine (h1.2.app h2.2).trans ?_
 have h9 := ((Fil.refl U1).app (fil_swap (a := V1) (b := U2) (fun x hx y hy => by have := hlt x hx y hy; omega))).app (Fil.refl V2)
 simp only [zR] at h9 ⊢
 exact h9
theorem mg_one_left {u : Rx} {V : List Rx} {n : Nat} (hV : UpS V) (h1 : ∀ x ∈ V.take n, x.1 < u.1) (h2 : ∀ y ∈ V.drop n, u.1 ≤ y.1) : Mg [u] V (V.take n ++ u :: V.drop n) := by
 have hV2 : UpS (V.take n ++ V.drop n) := by rw [zQ]; exact hV
 refine ⟨hV2.left.app (b := u :: V.drop n) (List.pairwise_cons.2 ⟨h2, hV2.right⟩) fun x hx y hy => ?_, ?_⟩
 ·rcases yB.1 hy with rfl | hy
  ·exact Int.le_of_lt (h1 x hx)
  exact hV2.mid x hx y hy
 have h9 := (fil_swap (a := V.take n) (b := [u]) (fun x hx y hy => by rw [yR] at hy; subst hy; have := h1 x hx; omega)).app (Fil.refl (V.drop n))
 simp only [zR, zQ, yG, yH] at h9 ⊢
 exact h9
theorem mg_one_right {v : Rx} {U : List Rx} {n : Nat} (hU : UpS U) (h1 : ∀ x ∈ U.take n, x.1 ≤ v.1) (h2 : ∀ y ∈ U.drop n, v.1 < y.1) : Mg U [v] (U.take n ++ v :: U.drop n) := by
 have hU2 : UpS (U.take n ++ U.drop n) := by rw [zQ]; exact hU
 refine ⟨hU2.left.app (b := v :: U.drop n) (List.pairwise_cons.2 ⟨fun y hy => Int.le_of_lt (h2 y hy), hU2.right⟩) fun x hx y hy => ?_, ?_⟩
 ·rcases yB.1 hy with rfl | hy
  ·exact h1 x hx
  exact hU2.mid x hx y hy
 have h9 := (Fil.refl (U.take n)).app (fil_swap (a := [v]) (b := U.drop n) (fun x hx y hy => by rw [yR] at hx; subst hx; have := h2 y hy; omega))
 have e : U.take n ++ (U.drop n ++ [v]) = U ++ [v] := by rw [← zR, zQ]
 rw [e] at h9
 exact h9
theorem mg_nil_left {V : List Rx} (hV : UpS V) : Mg [] V V := ⟨hV, Fil.refl _⟩
theorem xDO {U : List Rx} (hU : UpS U) : Mg U [] U := ⟨hU, by rw [zV]; exact Fil.refl _⟩
theorem OX.len {w : World} {base L cap : Nat} {ao : Option Addr} {d : List Rx} (h : OX w base (.slice ao L cap) d) : d.length = L := by
 obtain ⟨_, _, hv, _⟩ := h.shape
 simp only [zZ] at hv
 exact hv.2.1.symm
theorem OX.at2 {w : World} {base g L cap : Nat} {d : List Rx} (h : OX w base (.slice (some ⟨g, 0, none⟩) L cap) d) {i : Nat} {x : Rx} (hx : d[i]? = some x) :
  w.cell? ⟨g, i * 2, none⟩ = some (.int .i64 x.1) ∧ w.cell? ⟨g, i * 2 + 1, none⟩ = some (.int .i64 x.2) ∧ w.frozen? ⟨g, i * 2, none⟩ = false ∧ w.frozen? ⟨g, i * 2 + 1, none⟩ = false := by
 have hl := h.len
 subst hl
 exact h.at hx
theorem OX.swap2 {w : World} {base g L cap : Nat} {d d' : List Rx} (h : OX w base (.slice (some ⟨g, 0, none⟩) L cap) d) {i j : Nat} {x y : Rx} (hx : d[i]? = some x) (hy : d[j]? = some y) (hd : swp d i j x y = d') :
  ∀ Z, ((((w.setCell ⟨g, i * 2, none⟩ (.int .i64 y.1)).setCell ⟨g, i * 2 + 1, none⟩ (.int .i64 y.2)).setCell ⟨g, j * 2, none⟩ (.int .i64 x.1)).setCell ⟨g, j * 2 + 1, none⟩ (.int .i64 x.2)).drew = Z → OX Z base (.slice (some ⟨g, 0, none⟩) L cap) d' ∧ w.grownBy Z (some g) := fun Z hZ => by
 have hl := h.len
 subst hl
 subst hd
 exact h.swap hx hy hZ
theorem symLeft_any (g cap base a m b L : Nat) (X V Y : List Rx) (u : Rx) (w : World) (hX : X.length = a) (hm : a + 1 = m) (hV : m + V.length = b) (hL : b + Y.length = L) (hV0 : 0 < V.length) (hup : UpS V) (h : OX w base (.slice (some ⟨g, 0, none⟩) L cap) (X ++ u :: V ++ Y)) (_hc : L ≤ cap) (_hc2 : cap ≤ 9223372036854775807) (hc3 : L ≤ 1152921504606846976) :
  Calls Tryz.prog 163 #[.slice (some ⟨g, 0, none⟩) L cap, .int .i64 (a : Int), .int .i64 (m : Int), .int .i64 (b : Int), cmpF] w fun e w' => ∃ M, e = .returned (.tuple #[]) ∧ Mg [u] V M ∧ OX w' base (.slice (some ⟨g, 0, none⟩) L cap) (X ++ M ++ Y) ∧ w.grownBy w' (some g) := by
 have HO := hid h
 have HUp := hid hup
 have hu : IntKind.i64.wrap ((m : Int) - (a : Int)) = 1 := by rw [yA _ ⟨by omega, by omega⟩]; omega
 have h11 : ((1 : Int) == 1) = true := rfl
 obtain ⟨D, hD⟩ : ∃ D, D = X ++ u :: V ++ Y := ⟨_, rfl⟩
 have hgu : D[a]? = some u := by rw [hD, zR, zM (by omega), hX, Nat.sub_self]; rfl
 have hgv : ∀ k, m ≤ k → k < b → D[k]? = V[k - m]? := fun k h1 h2 => by
  rw [hD, zR, zM (by omega), show k - X.length = (k - m) + 1 by omega, yG, yP, zN (by omega)]
 have HGu := hid hgu
 have HGv := hid hgv
 rw [← hD] at HO
 have HE := hid (show (X.length = a ∧ a + 1 = m ∧ m + V.length = b ∧ b + Y.length = L) ∧ D = X ++ u :: V ++ Y from ⟨⟨hX, hm, hV, hL⟩, hD⟩)
 have hmb : m < b := by omega
 have hbL : b ≤ L := by omega
 have hab : a < m := by omega
 have haL : a < L := by omega
 clear h hX hm hV hL hD hgu hgv hup
 go_enter Tryz.func163, Tryz.ntmps163
 go_wp2
 go_loopw [10, 11] (fun iv jv wr => ∃ (i j : Nat), iv = .int .i64 i ∧ jv = .int .i64 j ∧ m ≤ i ∧ i ≤ j ∧ j ≤ b ∧ (∀ z, m < i → D[i - 1]? = some z → z.1 < u.1) ∧ (∀ z, j < b → D[j]? = some z → u.1 ≤ z.1) ∧ Below w.heap.size w wr) (fun iv jv _ => (intOf jv).toNat - (intOf iv).toNat)
 case atStart => exact ⟨m, b, rfl, rfl, Nat.le_refl _, by omega, Nat.le_refl _, fun z h => by omega, fun z h => by omega, Below.refl _ _⟩
 case round =>
  obtain ⟨i, j, rfl, rfl, hi, hij, hj, hlo, hhi, hbl⟩ := hrel
  have HLo := hid hlo
  have HHi := hid hhi
  have HBl := hid hbl
  clear hlo hhi hbl hu
  by_cases hlt : i < j
  ·have hd : decide ((i : Int) < (j : Int)) = true := by simpa using hlt
   obtain ⟨H, hH, hH1, hH2⟩ : ∃ H : Nat, ((i : Int) + (j : Int)) / 2 = (H : Int) ∧ i ≤ H ∧ H < j := ⟨(i + j) / 2, by omega, by omega, by omega⟩
   have HH := hid hH
   obtain ⟨z, hz⟩ : ∃ z, D[H]? = some z := ⟨_, zC (by have := HO.out.len; omega)⟩
   have HZ := hid hz
   obtain ⟨i1, i2, _, _⟩ := (HO.out.later HBl.out).at2 hz
   obtain ⟨j1, j2, _, _⟩ := (HO.out.later HBl.out).at2 HGu.out
   have hHL : H < L := by omega
   clear hH hz
   go_wp2
   rw [HH.out]
   refine xBR (by kernel_rfl) (by kernel_rfl) ?_
   (go_big_quiet_want; go_big_quiet_op; go_big_quiet_on)
   (go_big_quiet_want; go_big_quiet_op; go_big_quiet_on)
   (go_big_quiet_want; go_big_quiet_op; go_big_quiet_on)
   go_big_quiet_want
   refine ⟨.pointer (some ⟨g, H * 2, none⟩), fun w' hw' => ?_, ?_⟩
   ·unfold Oper.quietAt; go_simp
   simp only [Act.put, sA, sB, sC]
   go_big_quiet_on
   go_big_quiet_want
   refine ⟨.agg #[.int .i64 z.1, .int .i64 z.2], fun w' hw' => ?_, ?_⟩
   ·have hh0 := (zK hw').cell _ _ i1; have hh1 := (zK hw').cell _ _ i2; unfold Oper.quietAt; go_simp
   simp only [Act.put, sA, sB, sC]
   go_big_quiet_on
   (go_big_quiet_want; go_big_quiet_op; go_big_quiet_on)
   (go_big_quiet_want; go_big_quiet_op; go_big_quiet_on)
   go_big_quiet_want
   refine ⟨.pointer (some ⟨g, a * 2, none⟩), fun w' hw' => ?_, ?_⟩
   ·unfold Oper.quietAt; go_simp
   simp only [Act.put, sA, sB, sC]
   go_big_quiet_on
   go_big_quiet_want
   refine ⟨.agg #[.int .i64 u.1, .int .i64 u.2], fun w' hw' => ?_, ?_⟩
   ·have hh0 := (zK hw').cell _ _ j1; have hh1 := (zK hw').cell _ _ j2; unfold Oper.quietAt; go_simp
   simp only [Act.put, sA, sB, sC]
   go_big_quiet_on
   go_big_quiet_want
   refine ⟨.int .i64 (cmpZ8 z.1 u.1), fun w' hw' => ?_, ?_⟩
   ·unfold Oper.quietAt; go_simp; exact (xCP z u w').mono (fun e w2 ⟨he, hb⟩ => ⟨he, zS hw' hb⟩)
   simp only [Act.put, sA, sB, sC]
   go_big_quiet_on
   go_big_quiet_want
   refine ⟨.bool (decide (cmpZ8 z.1 u.1 < 0)), fun w' hw' => ?_, ?_⟩
   ·unfold Oper.quietAt; go_simp
   simp only [Act.put, sA, sB, sC]
   go_big_quiet_on
   refine wpQuiet_nil ?_
   intro w5 hb5
   have HB5 := hid (zS HBl.out hb5)
   clear hb5 i1 i2 j1 j2
   rw [cmpZ8_lt]
   by_cases hzu : z.1 < u.1
   ·rw [decide_eq_true hzu]
    have HN : Hid (∀ y, m < H + 1 → D[H + 1 - 1]? = some y → y.1 < u.1) := fun y _ hy => by
     rw [Nat.add_sub_cancel, HZ.out] at hy
     cases hy
     exact hzu
    clear hzu
    go_wp2
    go_roundw
    case rel => exact ⟨H + 1, j, by go_num, rfl, by omega, by omega, hj, HN.out, HHi.out, HB5.out⟩
    case measure => simp only [intOf]; omega
   rw [decide_eq_false hzu]
   have HN : Hid (∀ y, H < b → D[H]? = some y → u.1 ≤ y.1) := fun y _ hy => by
    rw [HZ.out] at hy
    cases hy
    omega
   clear hzu
   go_wp2
   go_roundw
   case rel => exact ⟨i, H, rfl, rfl, hi, by omega, by omega, HLo.out, HN.out, HB5.out⟩
   case measure => simp only [intOf]; omega
  obtain rfl : i = j := by omega
  have HMg : Hid (Mg [u] V (V.take (i - m) ++ u :: V.drop (i - m))) := by
   obtain ⟨⟨hX, hm, hV, hL⟩, hD⟩ := HE.out
   refine mg_one_left HUp.out (fun x hx => ?_) (fun y hy => ?_)
   ·by_cases h0 : i = m
    ·rw [h0, Nat.sub_self] at hx; simp at hx
    obtain ⟨z, hz⟩ : ∃ z, V[i - 1 - m]? = some z := ⟨_, zC (by omega)⟩
    have h1 := HLo.out z (by omega) (by rw [HGv.out (i - 1) (by omega) (by omega)]; exact hz)
    have h2 := up_last HUp.out (x := x) hz (by rw [show i - 1 - m + 1 = i - m by omega]; exact hx)
    omega
   by_cases h0 : i = b
   ·rw [zP (by omega)] at hy; simp at hy
   obtain ⟨z, hz⟩ : ∃ z, V[i - m]? = some z := ⟨_, zC (by omega)⟩
   have h1 := HHi.out z (by omega) (by rw [HGv.out i (by omega) (by omega)]; exact hz)
   have h2 := up_first HUp.out (y := y) hz hy
   omega
  have hi1 : IntKind.i64.wrap ((i : Int) - 1) = ((i - 1 : Nat) : Int) := by rw [yA _ ⟨by omega, by omega⟩]; omega
  have hd : decide ((i : Int) < (i : Int)) = false := by simp
  have HO2 : Hid (OX wr base (.slice (some ⟨g, 0, none⟩) L cap) (X ++ V.take (a - a) ++ u :: V.drop (a - a) ++ Y)) := by
   obtain ⟨_, hD⟩ := HE.out
   have h9 := HO.out.later HBl.out
   rw [hD] at h9
   show OX _ _ _ _
   simpa using h9
  have HG2 := hid (xAA HBl.out (some g))
  obtain ⟨I, hI⟩ : ∃ I, I = i - 1 := ⟨_, rfl⟩
  rw [← hI] at hi1
  have HI := hid hI
  have haI : a ≤ I := by omega
  have hIb : I < b := by omega
  clear hI HLo HHi
  go_wp2
  go_loopw [13] (fun kv wr => ∃ k : Nat, kv = .int .i64 k ∧ a ≤ k ∧ k ≤ I ∧ OX wr base (.slice (some ⟨g, 0, none⟩) L cap) (X ++ V.take (k - a) ++ u :: V.drop (k - a) ++ Y) ∧ w.grownBy wr (some g)) (fun kv _ => I - (intOf kv).toNat)
  case atStart => exact ⟨a, rfl, Nat.le_refl _, haI, HO2.out, HG2.out⟩
  case round =>
   obtain ⟨k, rfl, hk1, hk2, how, hgr⟩ := hrel
   have HW := hid how
   have HG := hid hgr
   clear how hgr HO2 HG2
   by_cases hlt : k < I
   ·have hdk : decide ((k : Int) < (I : Int)) = true := by simpa using hlt
    obtain ⟨⟨hX, hm, hV, hL⟩, hD⟩ := HE.out
    obtain ⟨x, hx⟩ : ∃ x, V[k - a]? = some x := ⟨_, zC (by have := HI.out; omega)⟩
    have hw := HW.out
    rw [xAR hx] at hw
    have g1 : (X ++ V.take (k - a) ++ u :: (x :: V.drop (k - a + 1)) ++ Y)[k]? = some u := by
     rw [zR, zM (by simp [hX]; omega)]
     have : k - (X ++ V.take (k - a)).length = 0 := by simp [hX]; omega
     rw [this]
     rfl
    have g2 : (X ++ V.take (k - a) ++ u :: (x :: V.drop (k - a + 1)) ++ Y)[k + 1]? = some x := by
     rw [zR, zM (by simp [hX]; omega)]
     have : k + 1 - (X ++ V.take (k - a)).length = 1 := by simp [hX]; omega
     rw [this]
     rfl
    obtain ⟨i1, i2, i3, i4⟩ := hw.at2 g1
    obtain ⟨j1, j2, j3, j4⟩ := hw.at2 g2
    have HSw := hid (hw.swap2 g1 g2 (d' := X ++ V.take (k + 1 - a) ++ u :: V.drop (k + 1 - a) ++ Y) (by
     rw [show k + 1 - a = k - a + 1 by omega, xAM hx]
     have h9 := swp_mid (X := X ++ V.take (k - a)) (M := []) (Y := V.drop (k - a + 1) ++ Y) (x := u) (y := x) (i := k) (j := k + 1) (by simp [hX]; omega) (by simp [hX]; omega)
     simp only [zR, yG, yH] at h9 ⊢
     exact h9))
    have hk3 : IntKind.i64.wrap ((k : Int) + 1) = ((k + 1 : Nat) : Int) := by rw [yA _ ⟨by omega, by omega⟩]; omega
    have hkL : k < L := by omega
    have hkL2 : k + 1 < L := by have := HI.out; omega
    obtain ⟨J, hJ⟩ : ∃ J, J = k + 1 := ⟨_, rfl⟩
    rw [← hJ] at j1 j2 j3 j4 hk3 hkL2 HSw
    have hn0 : ¬ k = J := by omega
    have hn1 : ¬ J = k := by omega
    have hn2 : ¬ k * 2 = J * 2 := by omega
    have hn3 : ¬ J * 2 = k * 2 := by omega
    have HJ := hid hJ
    clear hX hm hV hL hD hx hw g1 g2 hJ
    go_wp2
    go_region
    generalize hZ : World.drew _ = Z
    obtain ⟨o9, g9⟩ := HSw.out _ hZ
    have O9 := hid o9
    have G9 := hid (HG.out.trans g9)
    clear hZ o9 g9 HSw i1 i2 i3 i4 j1 j2 j3 j4
    go_wp2
    go_roundw
    case rel => exact ⟨J, by have := HJ.out; go_num, by have := HJ.out; omega, by have := HJ.out; omega, O9.out, G9.out⟩
    case measure => have := HJ.out; simp only [intOf]; omega
   have hdk : decide ((k : Int) < (I : Int)) = false := by simpa using hlt
   obtain rfl : k = I := by omega
   go_wp2
   (try simp only [Exit.inBlock, Exit.then])
   refine bodyPost_ret (results_none rfl _ _ _) rfl ?_
   refine ⟨_, rfl, HMg.out, ?_, HG.out⟩
   have h9 := HW.out
   rw [show k - a = i - m by obtain ⟨⟨hX, hm, hV, hL⟩, hD⟩ := HE.out; have := HI.out; omega] at h9
   simpa using h9
end Go.Proofs.YtdjmjhlbjcgoiaaGreatDoor
