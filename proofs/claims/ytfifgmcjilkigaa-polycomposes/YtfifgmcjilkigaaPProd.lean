/- What product answers. -/
import Derived.Test.YtfifgmcjilkigaaPSum
import Derived.Test.YtfifgmcjilkigaaProd
namespace Go.Proofs.Ytfifgmcjilkigaa
open Go.RowKit Go.Maps

/-- A monomial times monomials, put one after the other. -/
def prodIn (m : Mn) : Lk → List Mn → Lk × Int
  | L, [] => (L, 0)
  | L, n :: r =>
    if raisedE (keyX m.2) n.2 = 0 then
      if mulE m.1 n.1 = 0 then
        if putE L (raisedK (keyX m.2) n.2) (mulL m.1 n.1) = 0 then prodIn m (putL L (raisedK (keyX m.2) n.2) (mulL m.1 n.1)) r
        else (putL L (raisedK (keyX m.2) n.2) (mulL m.1 n.1), putE L (raisedK (keyX m.2) n.2) (mulL m.1 n.1))
      else (L, mulE m.1 n.1)
    else (L, raisedE (keyX m.2) n.2)

def prods (q : List Mn) : Lk → List Mn → Lk × Int
  | L, [] => (L, 0)
  | L, m :: r => if (prodIn m L q).2 = 0 then prods q (prodIn m L q).1 r else prodIn m L q

def prodE (p q : List Mn) : Int := (prods q [] p).2
def prodL (p q : List Mn) : List Mn := if prodE p q = 0 then rowL (prods q [] p).1 else []

theorem len_prodIn {m : Mn} {q : List Mn} : ∀ {L : Lk}, (prodIn m L q).2 = 0 → L.length ≤ 256 → (prodIn m L q).1.length ≤ 256 := by
  induction q with
  | nil => intro L _ h; exact h
  | cons n r ih =>
    intro L h hL
    unfold prodIn at h ⊢
    split at h
    · rename_i h0
      rw [if_pos h0]
      split at h
      · rename_i h1
        rw [if_pos h1]
        split at h
        · rename_i h2
          rw [if_pos h2]
          exact ih h (len_putL h2 hL)
        · rename_i h2
          exact absurd h h2
      · rename_i h1
        exact absurd h h1
    · rename_i h0
      exact absurd h h0

theorem keyX_le {es : List Int} (h : Small es) : ∀ (j x : Nat), (keyX es)[j]? = some x → x ≤ 64 := by
  intro j x hx
  by_cases hj : j < es.length
  · obtain ⟨y, hy⟩ : ∃ y, es[j]? = some y := ⟨es[j], List.getElem?_eq_getElem hj⟩
    rw [keyX_get hy] at hx
    cases hx
    have := h.2 j y hy
    omega
  · have hl := keyX_len h.1
    have := (List.getElem?_eq_some_iff.1 hx).1
    rw [keyX_high (by omega) (by omega)] at hx
    cases hx
    omega

theorem wfK_raised {ks : List Nat} {es : List Int} (hk : ks.length = 512) (hs : Small es) (h0 : raisedE ks es = 0) : WfK (raisedK ks es) := by
  have ha : (addK ks (keyX es)).all (fun n => decide (n ≤ 64)) = true := by
    unfold raisedE at h0
    split at h0
    · assumption
    · omega
  unfold raisedK
  rw [if_pos ha]
  have hl := keyX_len hs.1
  refine ⟨by simp [addK, hk, hl], fun j x hx => ?_⟩
  rw [List.all_eq_true] at ha
  have := ha x (List.mem_of_getElem? hx)
  simp at this
  omega

theorem len_raised {ks : List Nat} {es : List Int} (hk : ks.length = 512) (hs : Small es) : (raisedK ks es).length = 512 := by
  unfold raisedK
  have hl := keyX_len hs.1
  split
  · simp [addK, hk, hl]
  · exact len_zeros

set_option maxRecDepth 100000 in
set_option maxHeartbeats 3200000 in
theorem pprod_any (v u : Value) (p q : List Mn) (w : World) (h : Ms w v p) (h' : Ms w u q) (hs : ∀ (k : Nat) (m : Mn), p[k]? = some m → Small m.2) (hs' : ∀ (k : Nat) (m : Mn), q[k]? = some m → Small m.2) :
    Calls Try.prog 45 #[v, u] w fun e w' => ∃ v', e = .returned (.tuple #[v', .int .i64 (prodE p q)]) ∧ OM w' w.heap.size v' (prodL p q) ∧ Below w.heap.size w w' := by
  obtain ⟨ao, cap, rfl, hao, hca, q0⟩ := Row.flat h
  obtain ⟨bo, cap', rfl, hbo, hcb, q0'⟩ := Row.flat h'
  unfold maxLen at hca hcb
  have hmm := @run_makeMap Try.prog
  have H0 : Hid (MapOk (w.alloc (.map #[] 0)) w.heap.size w.heap.size []) := MapOk.made w _
  have HP : Hid (Ms w (.slice ao p.length cap) p) := h
  have HQ : Hid (Ms w (.slice bo q.length cap') q) := h'
  have HS : Hid (∀ (k : Nat) (m : Mn), p[k]? = some m → Small m.2) := hs
  have HS' : Hid (∀ (k : Nat) (m : Mn), q[k]? = some m → Small m.2) := hs'
  have hzs2 : Try.zeroCells70.size = 512 := Try.zeroCells70_size
  clear h h' hs hs' q0 q0'
  go_enter Try.func45, Try.ntmps45
  go_wp2
  clear hmm
  go_loopw [18] (fun i wr => ∃ (k : Nat) (M : Lk), k ≤ p.length ∧ i = .int .i64 k ∧ prods q [] p = prods q M (p.drop k) ∧ M.length ≤ 256 ∧ MapOk wr w.heap.size w.heap.size M ∧ Below w.heap.size w wr) (fun i _ => p.length - (intOf i).toNat)
  case atStart => exact ⟨0, [], by omega, rfl, rfl, by simp, H0.out, below_alloc _⟩
  case round =>
    obtain ⟨k, M0, hk, rfl, hpu, hM6, hmo, hbl⟩ := hrel
    have HPr : Hid (prods q [] p = prods q M0 (p.drop k)) := hpu
    have HMo : Hid (MapOk wr w.heap.size w.heap.size M0) := hmo
    have HBl : Hid (Below w.heap.size w wr) := hbl
    clear hpu hmo hbl H0
    by_cases hlt : k < p.length
    · obtain ⟨g, off, c, es, a1, c1, a2, c2, rfl, hm1, hc0, hc1, hmm, hl1, hl2, hl3, hl4⟩ := (HP.out.kp (Kp.of_below HBl.out)).at hlt
      have HX : Hid (p[k]? = some (c, es)) := hm1
      have HSm : Hid (Small es) := HS.out k _ hm1
      have hbx := below_alloc (w := wr) (.cells #[.slice a1 c.length c1, .slice a2 es.length c2] 46)
      have HMm : Hid (Mo (wr.alloc (.cells #[.slice a1 c.length c1, .slice a2 es.length c2] 46)) (.slice a1 c.length c1) (.slice a2 es.length c2) (c, es)) := hmm.kp (Kp.of_below hbx)
      clear hm1 hmm hbx
      go_wp2_with fail
      refine (packed_any _ es _ HMm.out.2 HSm.out).mono ?_
      rintro e w1 ⟨rfl, hb1⟩
      obtain ⟨hd0, hd1, hb01⟩ := box2 hb1
      have hk512 := keyX_len HSm.out.1
      have hbin : Below w1.heap.size w1 ((w1.alloc (.cells Try.zeroCells70 70)).setRow w1.heap.size (arr (keyX es))) := below_setRow (below_alloc _) (Nat.le_refl _)
      go_wp2_with (first
        | (refine wpList_store_row rfl _ _ _ rfl w1.heap.size (arr (keyX es)) rfl rfl _ _ (heap_alloc_new w1 _) (by rw [info_arr, arr_size, hk512]) (by rw [arr_size, hk512, hzs2]) (arr_one _) ?_))
      obtain ⟨wi, hwi⟩ : ∃ wi, wi = (w1.alloc (.cells Try.zeroCells70 70)).setRow w1.heap.size (arr (keyX es)) := ⟨_, rfl⟩
      have HAi : Hid (Ar wi w1.heap.size (keyX es)) := by rw [hwi]; exact setRow_heap _ _ _ _ _ _ (heap_alloc_new w1 _)
      rw [← hwi] at hbin ⊢
      clear hwi
      have hbi : Below wr.heap.size wr wi := below_step hb01 hbin
      have HBi : Hid (Below w.heap.size w wi) := below_step HBl.out hbi
      have HMi : Hid (MapOk wi w.heap.size w.heap.size M0) := HMo.out.later hbi
      have hi0 := (Kp.of_below hbin).cell _ _ hd0
      have HSl : Hid (Sl wi (.slice a1 c.length c1) c) := (HMm.out.1.kp (Kp.of_below hb1)).kp (Kp.of_below hbin)
      obtain ⟨esm, clm, hmapi⟩ := HMi.out.isMap
      have HMapi : Hid (wi.heap[w.heap.size]? = some (.map esm clm)) := hmapi
      have hbne : w1.heap.size ≠ w.heap.size := by have := HMo.out.lt; have := hb01.size; omega
      clear hb1 hd0 hd1 hb01 hbin hbi hmapi
      go_wp2
      obtain ⟨G8, hG8⟩ : ∃ G8, G8 = wr.heap.size := ⟨_, rfl⟩
      rw [← hG8] at hi0 ⊢
      clear hG8
      have HFin : Hid (∀ E : Int, ¬ E = 0 → (prodIn (c, es) M0 q).2 = E → prodE p q = E ∧ prodL p q = []) := by
        intro E hE0 hE
        have h1 : prodE p q = E := by
          unfold prodE
          rw [HPr.out, drop_get HX.out, prods, if_neg (by rw [hE]; exact hE0), hE]
        exact ⟨h1, by unfold prodL; rw [h1, if_neg hE0]⟩
      go_loopw [27] (fun i ws => ∃ (l : Nat) (M : Lk), l ≤ q.length ∧ i = .int .i64 l ∧ prodIn (c, es) M0 q = prodIn (c, es) M (q.drop l) ∧ M.length ≤ 256 ∧ MapOk ws w.heap.size w.heap.size M ∧ wi.grownBy ws (some w.heap.size)) (fun i _ => q.length - (intOf i).toNat)
      case atStart => exact ⟨0, M0, by omega, rfl, rfl, hM6, HMi.out, World.grownBy.refl _ _⟩
      case round =>
        obtain ⟨l, M, hl, rfl, hpi, hM, hmo, hgr⟩ := hrel
        have HPi : Hid (prodIn (c, es) M0 q = prodIn (c, es) M (q.drop l)) := hpi
        have HMs : Hid (MapOk wr w.heap.size w.heap.size M) := hmo
        have HGr : Hid (wi.grownBy wr (some w.heap.size)) := hgr
        have HKp : Hid (Kp wi wr) := Kp.of_map hgr HMapi.out
        have HAr : Hid (Ar wr w1.heap.size (keyX es)) := (hgr.block _ HAi.out.lt (by simpa using hbne)).trans HAi.out
        have HBr : Hid (Below w.heap.size w wr) := HBi.out.grown hgr HBi.out.size (fun k hk => by cases hk; exact Nat.le_refl _)
        clear hpi hmo hgr
        by_cases hll : l < q.length
        · obtain ⟨g', off', d, fs, b1, d1, b2, d2, rfl, hn1, he0, he1, hmn, hj1, hj2, hj3, hj4⟩ := (HQ.out.kp (Kp.of_below HBr.out)).at hll
          have HY : Hid (q[l]? = some (d, fs)) := hn1
          have HSn : Hid (Small fs) := HS'.out l _ hn1
          have hba := below_alloc (w := wr) (.cells #[.slice b1 d.length d1, .slice b2 fs.length d2] 46)
          have HMn : Hid (Mo (wr.alloc (.cells #[.slice b1 d.length d1, .slice b2 fs.length d2] 46)) (.slice b1 d.length d1) (.slice b2 fs.length d2) (d, fs)) := hmn.kp (Kp.of_below hba)
          have HAa : Hid (Ar (wr.alloc (.cells #[.slice b1 d.length d1, .slice b2 fs.length d2] 46)) w1.heap.size (keyX es)) := HAr.out.later hba
          clear hn1 hmn hba
          go_wp2_with (first
            | (refine wpList_load_row rfl _ _ rfl w1.heap.size rfl _ _ _ _ HAa.out under_arr rfl (by rw [info_arr, arr_size, hk512]) ?_))
          refine (raised_any _ (keyX es) fs _ HMn.out.2 HSn.out hk512 (keyX_le HSm.out)).mono ?_
          rintro e w2 ⟨rfl, hb2⟩
          obtain ⟨hf0, hf1, hb02⟩ := box2 hb2
          have hr512 := len_raised hk512 HSn.out
          obtain ⟨K1, hK1⟩ : ∃ K1, K1 = raisedK (keyX es) fs := ⟨_, rfl⟩
          obtain ⟨E1, hE1⟩ : ∃ E1, E1 = raisedE (keyX es) fs := ⟨_, rfl⟩
          rw [← hK1] at hr512 ⊢
          rw [← hE1]
          have HK1 : Hid (K1 = raisedK (keyX es) fs) := hK1
          have HE1 : Hid (E1 = raisedE (keyX es) fs) := hE1
          clear hK1 hE1
          have hb3 : Below w2.heap.size w2 ((w2.alloc (.cells Try.zeroCells70 70)).setRow w2.heap.size (arr K1)) := below_setRow (below_alloc _) (Nat.le_refl _)
          have hb03 := below_step hb02 hb3
          have HB3 : Hid (Below wr.heap.size wr ((w2.alloc (.cells Try.zeroCells70 70)).setRow w2.heap.size (arr K1))) := hb03
          by_cases h1 : E1 = 0
          · subst h1
            have hx8 := (Kp.of_below hb03).cell _ _ (HKp.out.cell _ _ hi0)
            have hx11 := (Kp.of_below hb3).cell _ _ hf0
            have HS1 : Hid (Sl ((w2.alloc (.cells Try.zeroCells70 70)).setRow w2.heap.size (arr K1)) (.slice a1 c.length c1) c) := (HSl.out.kp HKp.out).kp (Kp.of_below hb03)
            have HS2 : Hid (Sl ((w2.alloc (.cells Try.zeroCells70 70)).setRow w2.heap.size (arr K1)) (.slice b1 d.length d1) d) := (HMn.out.1.kp (Kp.of_below hb2)).kp (Kp.of_below hb3)
            have HA3 : Hid (Ar ((w2.alloc (.cells Try.zeroCells70 70)).setRow w2.heap.size (arr K1)) w2.heap.size K1) := setRow_heap _ _ _ _ _ _ (heap_alloc_new w2 _)
            clear hb2 hf0 hf1 hb02 hb3 hb03 he0 he1
            go_wp2_with (first
              | (refine wpList_store_row rfl _ _ _ rfl w2.heap.size (arr K1) rfl rfl _ _ (heap_alloc_new w2 _) (by rw [info_arr, arr_size, hr512]) (by rw [arr_size, hr512, hzs2]) (arr_one _) ?_))
            refine (mul_any _ _ c d _ HS1.out HS2.out).mono ?_
            rintro e w4 ⟨v4, rfl, ho4, hb4⟩
            have HS4 : Hid (Sl w4 v4 (mulL c d)) := ho4.sl
            have HA4 : Hid (Ar w4 w2.heap.size K1) := HA3.out.later hb4
            have hb04 := below_step HB3.out hb4
            have HM4 : Hid (MapOk w4 w.heap.size w.heap.size M) := HMs.out.later hb04
            have HB4 : Hid (Below wr.heap.size wr w4) := hb04
            obtain ⟨E2, hE2⟩ : ∃ E2, E2 = mulE c d := ⟨_, rfl⟩
            rw [← hE2]
            have HE2 : Hid (E2 = mulE c d) := hE2
            clear hE2 ho4 hb4 hb04 hx8 hx11 HS1 HS2 HA3
            by_cases h2 : E2 = 0
            · subst h2
              go_wp2_with (first
                | (refine wpList_load_row rfl _ _ rfl w2.heap.size rfl _ _ _ _ HA4.out under_arr rfl (by rw [info_arr, arr_size, hr512]) ?_))
              refine (put_any w.heap.size w.heap.size M K1 (mulL c d) v4 _ HM4.out (by rw [HK1.out]; exact wfK_raised hk512 HSn.out HE1.out.symm) HS4.out hM (Nat.le_trans HBr.out.size HB4.out.size)).mono ?_
              rintro e w5 ⟨rfl, hm5, hg5⟩
              have HM5 : Hid (MapOk w5 w.heap.size w.heap.size (putL M K1 (mulL c d))) := hm5
              have HG5 : Hid (wi.grownBy w5 (some w.heap.size)) := grown_trans (grown_trans HGr.out (grown_of_below HB4.out _)) hg5
              obtain ⟨E3, hE3⟩ : ∃ E3, E3 = putE M K1 (mulL c d) := ⟨_, rfl⟩
              rw [← hE3]
              have HE3 : Hid (E3 = putE M K1 (mulL c d)) := hE3
              clear hE3 hm5 hg5
              by_cases h3 : E3 = 0
              · subst h3
                go_wp2
                go_roundw
                case rel =>
                  refine ⟨l + 1, putL M K1 (mulL c d), by omega, by go_num, ?_, len_putL HE3.out.symm hM, HM5.out, HG5.out⟩
                  rw [HPi.out, drop_get HY.out, prodIn, if_pos HE1.out.symm, if_pos HE2.out.symm]
                  rw [← HK1.out, if_pos HE3.out.symm]
                case measure => simp [intOf]; omega
              · have hb0 : (E3 != 0) = true := by rw [bne_iff_ne]; exact h3
                have hfin := HFin.out E3 h3 (by rw [HPi.out, drop_get HY.out, prodIn, if_pos HE1.out.symm, if_pos HE2.out.symm]; rw [← HK1.out, if_neg (by rw [← HE3.out]; exact h3), ← HE3.out])
                have HFi : Hid (prodE p q = E3 ∧ prodL p q = []) := hfin
                have HB5 : Hid (Below w.heap.size w w5) := HBi.out.grown HG5.out HBi.out.size (fun k hk => by cases hk; exact Nat.le_refl _)
                clear hfin
                go_wp2
                go_ret2
                exact ⟨_, ret2i HFi.out.1.symm, by rw [HFi.out.2]; exact OM.nil _ _, HB5.out⟩
            · have hb0 : (E2 != 0) = true := by rw [bne_iff_ne]; exact h2
              have hb1 : (E2 == 0) = false := by rw [beq_eq_false_iff_ne]; exact h2
              have hfin := HFin.out E2 h2 (by rw [HPi.out, drop_get HY.out, prodIn, if_pos HE1.out.symm, if_neg (by show ¬ mulE c d = 0; rw [← HE2.out]; exact h2)]; exact HE2.out.symm)
              have HFi : Hid (prodE p q = E2 ∧ prodL p q = []) := hfin
              have HB5 : Hid (Below w.heap.size w w4) := below_step HBr.out HB4.out
              clear hfin
              go_wp2
              go_ret2
              exact ⟨_, ret2i HFi.out.1.symm, by rw [HFi.out.2]; exact OM.nil _ _, HB5.out⟩
          · have hb0 : (E1 != 0) = true := by rw [bne_iff_ne]; exact h1
            have hfin := HFin.out E1 h1 (by rw [HPi.out, drop_get HY.out, prodIn, if_neg (by show ¬ raisedE (keyX es) fs = 0; rw [← HE1.out]; exact h1)]; exact HE1.out.symm)
            have HFi : Hid (prodE p q = E1 ∧ prodL p q = []) := hfin
            have HB5 : Hid (Below w.heap.size w ((w2.alloc (.cells Try.zeroCells70 70)).setRow w2.heap.size (arr K1))) := below_step HBr.out HB3.out
            clear hfin hb2 hf0 hf1 hb02 hb3 hb03 he0 he1
            go_wp2_with (first
              | (refine wpList_store_row rfl _ _ _ rfl w2.heap.size (arr K1) rfl rfl _ _ (heap_alloc_new w2 _) (by rw [info_arr, arr_size, hr512]) (by rw [arr_size, hr512, hzs2]) (arr_one _) ?_))
            go_ret2
            exact ⟨_, ret2i HFi.out.1.symm, by rw [HFi.out.2]; exact OM.nil _ _, HB5.out⟩
        · have hle : l = q.length := by omega
          subst hle
          have hpr : prodIn (c, es) M0 q = (M, 0) := by rw [HPi.out, List.drop_of_length_le (Nat.le_refl _)]; rfl
          have HPq : Hid (prodIn (c, es) M0 q = (M, 0)) := hpr
          clear hpr
          go_wp2
          go_roundw
          case rel =>
            refine ⟨k + 1, M, by omega, by go_num, ?_, hM, HMs.out, HBr.out⟩
            rw [HPr.out, drop_get HX.out, prods, HPq.out, if_pos rfl]
          case measure => simp [intOf]; omega
    · have hke : k = p.length := by omega
      subst hke
      have HF : Hid (prods q [] p = (M0, 0)) := by
        show prods q [] p = _
        rw [HPr.out, List.drop_of_length_le (Nat.le_refl _)]; rfl
      go_wp2_with fail
      refine (row_any w.heap.size w.heap.size M0 _ HMo.out (by omega) HBl.out.size).mono ?_
      rintro e w3 ⟨v3, rfl, ho3, hb3⟩
      have hs0 : prodE p q = 0 := by unfold prodE; rw [HF.out]
      have HS0 : Hid (prodE p q = 0) := hs0
      have HO3 : Hid (OM w3 w.heap.size v3 (prodL p q)) := by
        show OM _ _ _ _
        unfold prodL
        rw [if_pos hs0, HF.out]
        exact ho3
      have HB3 : Hid (Below w.heap.size w w3) := below_step HBl.out hb3
      clear ho3 hb3 hs0
      go_wp2
      go_ret2
      exact ⟨_, ret2i HS0.out.symm, HO3.out, HB3.out⟩

end Go.Proofs.Ytfifgmcjilkigaa
