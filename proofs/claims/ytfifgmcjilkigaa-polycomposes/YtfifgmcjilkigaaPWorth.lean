/- A coefficient times the powers of factors. -/
import Derived.Test.YtfifgmcjilkigaaPPow
namespace Go.Proofs.Ytfifgmcjilkigaa
open Go.RowKit Go.Maps

/-- Whether a factor with a power is nought. -/
def noughtB {β : Type} (es : List Int) (fs : List (List β)) : Bool := (List.zip es fs).any (fun p => decide (0 < p.1) && p.2.length == 0)

/-- The coefficient times the powers, one after the other. -/
def worthGo {β : Type} (tL : List β → List β → List β) (tE : List β → List β → Int) : List Int → List (List β) → List β → List β × Int
  | [], _, c => (c, 0)
  | _ :: _, [], c => (c, 0)
  | n :: es, f :: fs, c =>
    if n = 0 then worthGo tL tE es fs c
    else if (powGo tL tE [] f n.toNat (Lib.bitLen n.toNat - 1) f).2 = 0 then
      if tE c (powGo tL tE [] f n.toNat (Lib.bitLen n.toNat - 1) f).1 = 0 then worthGo tL tE es fs (tL c (powGo tL tE [] f n.toNat (Lib.bitLen n.toNat - 1) f).1)
      else ([], tE c (powGo tL tE [] f n.toNat (Lib.bitLen n.toNat - 1) f).1)
    else ([], (powGo tL tE [] f n.toNat (Lib.bitLen n.toNat - 1) f).2)

def worthV {β : Type} (tL : List β → List β → List β) (tE : List β → List β → Int) (es : List Int) (fs : List (List β)) (c : List β) : List β × Int :=
  if noughtB es fs then ([], 0) else worthGo tL tE es fs c

theorem D_pow {α : Type} {tL : α → α → α} {tE : α → α → Int} {D : α → Prop} {nil a : α} {n : Nat} (hD : ∀ x y, D x → D y → tE x y = 0 → D (tL x y)) (ha : D a) : ∀ (b : Nat) (out : α), D out → (powGo tL tE nil a n b out).2 = 0 → D (powGo tL tE nil a n b out).1
  | 0, out, ho, _ => ho
  | b + 1, out, ho, h => by
    unfold powGo at h ⊢
    split at h
    · rename_i h0
      rw [if_pos h0]
      split at h
      · rename_i h1
        rw [if_pos h1]
        split at h
        · rename_i h2
          rw [if_pos h2]
          exact D_pow hD ha b _ (hD _ _ (hD _ _ ho ho h0) ha h2) h
        · rename_i h2
          exact absurd h h2
      · rename_i h1
        rw [if_neg h1]
        exact D_pow hD ha b _ (hD _ _ ho ho h0) h
    · rename_i h0
      exact absurd h h0

theorem nought_at {β : Type} {es : List Int} {fs : List (List β)} {k : Nat} {n : Int} {f : List β} (h : es[k]? = some n) (h' : fs[k]? = some f) (hn : 0 < n) (hf : f.length = 0) : noughtB es fs = true := by
  unfold noughtB
  rw [List.any_eq_true]
  refine ⟨(n, f), List.mem_of_getElem? (i := k) ?_, by simp [hn, hf]⟩
  rw [List.getElem?_zip_eq_some]
  exact ⟨h, h'⟩

theorem nought_no {β : Type} {es : List Int} {fs : List (List β)} (h : ∀ (k : Nat) (n : Int) (f : List β), es[k]? = some n → fs[k]? = some f → 0 < n → ¬ f.length = 0) : noughtB es fs = false := by
  unfold noughtB
  rw [List.any_eq_false]
  intro p hp
  obtain ⟨k, hk⟩ := List.mem_iff_getElem?.1 hp
  rw [List.getElem?_zip_eq_some] at hk
  have := h k p.1 p.2 hk.1 hk.2
  simp
  intro h0 hnil
  exact this h0 (by rw [hnil]; rfl)

theorem worthGo_at {β : Type} {tL : List β → List β → List β} {tE : List β → List β → Int} {es : List Int} {fs : List (List β)} {k : Nat} {n : Int} {f c : List β} (h : es[k]? = some n) (h' : fs[k]? = some f) :
    worthGo tL tE (es.drop k) (fs.drop k) c = worthGo tL tE (n :: es.drop (k + 1)) (f :: fs.drop (k + 1)) c := by rw [drop_get h, drop_get h']

section
variable {tL : List Nat → List Nat → List Nat} {tE : List Nat → List Nat → Int} {D : List Nat → Prop}

set_option maxRecDepth 100000 in
set_option maxHeartbeats 1600000 in
theorem worthN_any (g : FuncId) (v ev fv : Value) (c0 : List Nat) (es : List Int) (fs : List (List Nat)) (w : World) (ht : Times Sl D tL tE g) (hD : ∀ x y, D x → D y → tE x y = 0 → D (tL x y)) (h : Sl w v c0) (he : Is w ev es) (hf : Rs w fv fs) (hdc : D c0) (hdf : ∀ f ∈ fs, D f)
    (hs : Small es) (hlen : es.length ≤ fs.length) (eg : ∀ args w, (callFunc g args).run Try.prog w = .ok (.enter g args) w) :
    Calls Try.prog 52 #[v, ev, fv, .func (.func g) #[] #[]] w fun e w' => ∃ v', e = .returned (.tuple #[v', .int .i64 (worthV tL tE es fs c0).2]) ∧ Sl w' v' (worthV tL tE es fs c0).1 ∧ Below w.heap.size w w' := by
  obtain ⟨ao, cap, rfl, hao, hca, q0⟩ := Row.flat he
  obtain ⟨bo, cap', rfl, hbo, hcb, q0'⟩ := Row.flat hf
  unfold maxLen at hca hcb
  have HT : Hid (Times Sl D tL tE g) := ht
  have HD : Hid (∀ x y, D x → D y → tE x y = 0 → D (tL x y)) := hD
  have HC : Hid (Sl w v c0) := h
  have HI : Hid (Is w (.slice ao es.length cap) es) := he
  have HF : Hid (Rs w (.slice bo fs.length cap') fs) := hf
  have HDc : Hid (D c0) := hdc
  have HDf : Hid (∀ f ∈ fs, D f) := hdf
  have HS : Hid (Small es) := hs
  clear ht hD h he hf hdc hdf hs q0 q0'
  go_enter Try.func52, Try.ntmps52
  go_wp2
  go_loopw [18] (fun i wr => ∃ k : Nat, k ≤ es.length ∧ i = .int .i64 k ∧ (∀ (j : Nat) (n : Int) (f : List Nat), j < k → es[j]? = some n → fs[j]? = some f → 0 < n → ¬ f.length = 0) ∧ wr = w) (fun i _ => es.length - (intOf i).toNat)
  case atStart => exact ⟨0, by omega, rfl, fun j n f hj => absurd hj (by omega), rfl⟩
  case round =>
    obtain ⟨k, hk, rfl, hp, hw⟩ := hrel
    have hw8 := hw.symm
    subst hw8
    clear hw
    have HP : Hid (∀ (j : Nat) (n : Int) (f : List Nat), j < k → es[j]? = some n → fs[j]? = some f → 0 < n → ¬ f.length = 0) := hp
    clear hp
    by_cases hlt : k < es.length
    · obtain ⟨g1, off1, n, rfl, hx1, hx2, hx3, hx4⟩ := HI.out.at hlt
      obtain ⟨g2, off2, f, a1, c1, rfl, hy1, hy2, hy3, hy4, hy5⟩ := HF.out.at (show k < fs.length by omega)
      have HX : Hid (es[k]? = some n) := hx1
      have HY : Hid (fs[k]? = some f) := hy1
      have hkf : k < fs.length := by omega
      clear hx1 hy1 hy3
      by_cases hn : 0 < n
      · by_cases hf0 : f.length = 0
        · have hfb : ((f.length : Int) == 0) = true := by rw [beq_iff_eq]; omega
          have HN : Hid (worthV tL tE es fs c0 = ([], 0)) := by
            show _ = _
            unfold worthV
            rw [if_pos (nought_at HX.out HY.out hn hf0)]
          clear hf0
          go_wp2
          go_ret2
          exact ⟨_, ret2i (by rw [HN.out]), by rw [HN.out]; exact Sl.nil _, Below.refl _ _⟩
        · have hfb : ((f.length : Int) == 0) = false := by rw [beq_eq_false_iff_ne]; omega
          go_wp2
          go_roundw
          case rel =>
            refine ⟨k + 1, by omega, by go_num, fun j m q hj h1 h2 h3 => ?_, trivial⟩
            by_cases hjk : j = k
            · subst hjk; rw [HY.out] at h2; cases h2; exact hf0
            · exact HP.out j m q (by omega) h1 h2 h3
          case measure => simp [intOf]; omega
      · go_wp2
        go_roundw
        case rel =>
          refine ⟨k + 1, by omega, by go_num, fun j m q hj h1 h2 h3 => ?_, trivial⟩
          by_cases hjk : j = k
          · subst hjk; rw [HX.out] at h1; cases h1; exact absurd h3 hn
          · exact HP.out j m q (by omega) h1 h2 h3
        case measure => simp [intOf]; omega
    · have hke : k = es.length := by omega
      subst hke
      have hno : noughtB es fs = false := nought_no (fun j n f h1 h2 h3 => HP.out j n f (List.getElem?_eq_some_iff.1 h1).1 h1 h2 h3)
      have HV : Hid (worthV tL tE es fs c0 = worthGo tL tE es fs c0) := by
        show _ = _
        unfold worthV
        rw [hno]
        rfl
      clear hno HP
      go_wp2
      go_loopw [0, 36] (fun x i wr => ∃ (l : Nat) (c : List Nat), l ≤ es.length ∧ i = .int .i64 l ∧ Sl wr x c ∧ D c ∧ worthGo tL tE es fs c0 = worthGo tL tE (es.drop l) (fs.drop l) c ∧ Below w.heap.size w wr) (fun _ i _ => es.length - (intOf i).toNat)
      case atStart => exact ⟨0, c0, by omega, rfl, HC.out, HDc.out, rfl, Below.refl _ _⟩
      case round =>
        obtain ⟨l, c, hl, rfl, hrc, hdc, hwg, hbl⟩ := hrel
        have HRc : Hid (Sl wr u0 c) := hrc
        have HDC : Hid (D c) := hdc
        have HW : Hid (worthGo tL tE es fs c0 = worthGo tL tE (es.drop l) (fs.drop l) c) := hwg
        have HBl : Hid (Below w.heap.size w wr) := hbl
        clear hrc hdc hwg hbl
        by_cases hll : l < es.length
        · obtain ⟨g1, off1, n, rfl, hx1, hx2, hx3, hx4⟩ := (HI.out.kp (Kp.of_below HBl.out)).at hll
          obtain ⟨g2, off2, f, a1, c1, rfl, hy1, hy2, hy3, hy4, hy5⟩ := (HF.out.kp (Kp.of_below HBl.out)).at (show l < fs.length by omega)
          have HX : Hid (es[l]? = some n) := hx1
          have HY : Hid (fs[l]? = some f) := hy1
          have HFr : Hid (Sl wr (.slice a1 f.length c1) f) := hy3
          have hn64 := HS.out.2 l n hx1
          have hlf : l < fs.length := by omega
          have HDF : Hid (D f) := HDf.out f (List.mem_of_getElem? hy1)
          clear hx1 hy1 hy3
          by_cases hn0 : n = 0
          · subst hn0
            go_wp2
            go_roundw
            case rel =>
              refine ⟨l + 1, c, by omega, by go_num, HRc.out, HDC.out, ?_, HBl.out⟩
              rw [HW.out, worthGo_at HX.out HY.out, worthGo, if_pos rfl]
            case measure => simp [intOf]; omega
          · obtain ⟨N, rfl⟩ := Int.eq_ofNat_of_zero_le hn64.1
            have hnb : ((N : Int) == 0) = false := by rw [beq_eq_false_iff_ne]; exact hn0
            have HN0 : Hid (¬ (N : Int) = 0) := hn0
            have hN1 : 1 ≤ N := by omega
            clear hn0
            go_wp2_with fail
            refine (powerN_any g _ f N _ HT.out HD.out HFr.out HDF.out hN1 (by omega) eg).mono ?_
            rintro e w1 ⟨v1, rfl, ho1, hb1⟩
            obtain ⟨PW, hPW⟩ : ∃ PW, PW = powGo tL tE [] f N (Lib.bitLen N - 1) f := ⟨_, rfl⟩
            rw [← hPW] at ho1 ⊢
            have HPW : Hid (PW = powGo tL tE [] f N (Lib.bitLen N - 1) f) := hPW
            have HO1 : Hid (Sl w1 v1 PW.1) := ho1
            have HB1 : Hid (Below w.heap.size w w1) := below_step HBl.out hb1
            have HRc1 : Hid (Sl w1 u0 c) := HRc.out.kp (Kp.of_below hb1)
            obtain ⟨E, hE⟩ : ∃ E, E = PW.2 := ⟨_, rfl⟩
            rw [← hE]
            have HE : Hid (E = PW.2) := hE
            clear hPW hE ho1 hb1
            by_cases hE0 : E = 0
            · subst hE0
              have HDP : Hid (D PW.1) := by
                show D PW.1
                rw [HPW.out]
                exact D_pow HD.out HDF.out _ _ HDF.out (by rw [← HPW.out]; exact HE.out.symm)
              go_wp2_with fail
              refine (HT.out u0 v1 c PW.1 _ HRc1.out HO1.out HDC.out HDP.out).mono ?_
              rintro e w2 ⟨v2, rfl, ho2, hb2⟩
              have HO2 : Hid (Sl w2 v2 (tL c PW.1)) := ho2
              have HB2 : Hid (Below w.heap.size w w2) := below_step HB1.out hb2
              obtain ⟨F, hF⟩ : ∃ F, F = tE c PW.1 := ⟨_, rfl⟩
              rw [← hF]
              have HFF : Hid (F = tE c PW.1) := hF
              clear hF ho2 hb2
              by_cases hF0 : F = 0
              · subst hF0
                have HDn : Hid (D (tL c PW.1)) := HD.out _ _ HDC.out HDP.out HFF.out.symm
                go_wp2
                go_roundw
                case rel =>
                  refine ⟨l + 1, tL c PW.1, by omega, by go_num, HO2.out, HDn.out, ?_, HB2.out⟩
                  rw [HW.out, worthGo_at HX.out HY.out, worthGo, if_neg HN0.out]
                  simp only [Int.toNat_natCast]
                  rw [← HPW.out, if_pos HE.out.symm, if_pos HFF.out.symm]
                case measure => simp [intOf]; omega
              · have hb0 : (F != 0) = true := by rw [bne_iff_ne]; exact hF0
                have HFi : Hid (worthV tL tE es fs c0 = ([], F)) := by
                  show _ = _
                  rw [HV.out, HW.out, worthGo_at HX.out HY.out, worthGo, if_neg HN0.out]
                  simp only [Int.toNat_natCast]
                  rw [← HPW.out, if_pos HE.out.symm, if_neg (by rw [← HFF.out]; exact hF0), ← HFF.out]
                go_wp2
                go_ret2
                exact ⟨_, ret2i (by rw [HFi.out]), by rw [HFi.out]; exact Sl.nil _, HB2.out⟩
            · have hb0 : (E != 0) = true := by rw [bne_iff_ne]; exact hE0
              have hb1 : (E == 0) = false := by rw [beq_eq_false_iff_ne]; exact hE0
              have HFi : Hid (worthV tL tE es fs c0 = ([], E)) := by
                show _ = _
                rw [HV.out, HW.out, worthGo_at HX.out HY.out, worthGo, if_neg HN0.out]
                simp only [Int.toNat_natCast]
                rw [← HPW.out, if_neg (by rw [← HE.out]; exact hE0), ← HE.out]
              go_wp2
              go_ret2
              exact ⟨_, ret2i (by rw [HFi.out]), by rw [HFi.out]; exact Sl.nil _, HB1.out⟩
        · have hle : l = es.length := by omega
          subst hle
          have HFi : Hid (worthV tL tE es fs c0 = (c, 0)) := by
            show _ = _
            rw [HV.out, HW.out, List.drop_of_length_le (Nat.le_refl _)]
            rfl
          go_wp2
          go_ret2
          exact ⟨_, ret2i (by rw [HFi.out]), by rw [HFi.out]; exact HRc.out, HBl.out⟩

end

section
variable {tL : List Mn → List Mn → List Mn} {tE : List Mn → List Mn → Int} {D : List Mn → Prop}

set_option maxRecDepth 100000 in
set_option maxHeartbeats 1600000 in
theorem worthM_any (g : FuncId) (v ev fv : Value) (c0 : List Mn) (es : List Int) (fs : List (List Mn)) (w : World) (ht : Times Ms D tL tE g) (hD : ∀ x y, D x → D y → tE x y = 0 → D (tL x y)) (h : Ms w v c0) (he : Is w ev es) (hf : Ps w fv fs) (hdc : D c0) (hdf : ∀ f ∈ fs, D f)
    (hs : Small es) (hlen : es.length ≤ fs.length) (eg : ∀ args w, (callFunc g args).run Try.prog w = .ok (.enter g args) w) :
    Calls Try.prog 48 #[v, ev, fv, .func (.func g) #[] #[]] w fun e w' => ∃ v', e = .returned (.tuple #[v', .int .i64 (worthV tL tE es fs c0).2]) ∧ Ms w' v' (worthV tL tE es fs c0).1 ∧ Below w.heap.size w w' := by
  obtain ⟨ao, cap, rfl, hao, hca, q0⟩ := Row.flat he
  obtain ⟨bo, cap', rfl, hbo, hcb, q0'⟩ := Row.flat hf
  unfold maxLen at hca hcb
  have HT : Hid (Times Ms D tL tE g) := ht
  have HD : Hid (∀ x y, D x → D y → tE x y = 0 → D (tL x y)) := hD
  have HC : Hid (Ms w v c0) := h
  have HI : Hid (Is w (.slice ao es.length cap) es) := he
  have HF : Hid (Ps w (.slice bo fs.length cap') fs) := hf
  have HDc : Hid (D c0) := hdc
  have HDf : Hid (∀ f ∈ fs, D f) := hdf
  have HS : Hid (Small es) := hs
  clear ht hD h he hf hdc hdf hs q0 q0'
  go_enter Try.func48, Try.ntmps48
  go_wp2
  go_loopw [18] (fun i wr => ∃ k : Nat, k ≤ es.length ∧ i = .int .i64 k ∧ (∀ (j : Nat) (n : Int) (f : List Mn), j < k → es[j]? = some n → fs[j]? = some f → 0 < n → ¬ f.length = 0) ∧ wr = w) (fun i _ => es.length - (intOf i).toNat)
  case atStart => exact ⟨0, by omega, rfl, fun j n f hj => absurd hj (by omega), rfl⟩
  case round =>
    obtain ⟨k, hk, rfl, hp, hw⟩ := hrel
    have hw8 := hw.symm
    subst hw8
    clear hw
    have HP : Hid (∀ (j : Nat) (n : Int) (f : List Mn), j < k → es[j]? = some n → fs[j]? = some f → 0 < n → ¬ f.length = 0) := hp
    clear hp
    by_cases hlt : k < es.length
    · obtain ⟨g1, off1, n, rfl, hx1, hx2, hx3, hx4⟩ := HI.out.at hlt
      obtain ⟨g2, off2, f, a1, c1, rfl, hy1, hy2, hy3, hy4, hy5⟩ := HF.out.at (show k < fs.length by omega)
      have HX : Hid (es[k]? = some n) := hx1
      have HY : Hid (fs[k]? = some f) := hy1
      have hkf : k < fs.length := by omega
      clear hx1 hy1 hy3
      by_cases hn : 0 < n
      · by_cases hf0 : f.length = 0
        · have hfb : ((f.length : Int) == 0) = true := by rw [beq_iff_eq]; omega
          have HN : Hid (worthV tL tE es fs c0 = ([], 0)) := by
            show _ = _
            unfold worthV
            rw [if_pos (nought_at HX.out HY.out hn hf0)]
          clear hf0
          go_wp2
          go_ret2
          exact ⟨_, ret2i (by rw [HN.out]), by rw [HN.out]; exact Ms.nil _, Below.refl _ _⟩
        · have hfb : ((f.length : Int) == 0) = false := by rw [beq_eq_false_iff_ne]; omega
          go_wp2
          go_roundw
          case rel =>
            refine ⟨k + 1, by omega, by go_num, fun j m q hj h1 h2 h3 => ?_, trivial⟩
            by_cases hjk : j = k
            · subst hjk; rw [HY.out] at h2; cases h2; exact hf0
            · exact HP.out j m q (by omega) h1 h2 h3
          case measure => simp [intOf]; omega
      · go_wp2
        go_roundw
        case rel =>
          refine ⟨k + 1, by omega, by go_num, fun j m q hj h1 h2 h3 => ?_, trivial⟩
          by_cases hjk : j = k
          · subst hjk; rw [HX.out] at h1; cases h1; exact absurd h3 hn
          · exact HP.out j m q (by omega) h1 h2 h3
        case measure => simp [intOf]; omega
    · have hke : k = es.length := by omega
      subst hke
      have hno : noughtB es fs = false := nought_no (fun j n f h1 h2 h3 => HP.out j n f (List.getElem?_eq_some_iff.1 h1).1 h1 h2 h3)
      have HV : Hid (worthV tL tE es fs c0 = worthGo tL tE es fs c0) := by
        show _ = _
        unfold worthV
        rw [hno]
        rfl
      clear hno HP
      go_wp2
      go_loopw [0, 36] (fun x i wr => ∃ (l : Nat) (c : List Mn), l ≤ es.length ∧ i = .int .i64 l ∧ Ms wr x c ∧ D c ∧ worthGo tL tE es fs c0 = worthGo tL tE (es.drop l) (fs.drop l) c ∧ Below w.heap.size w wr) (fun _ i _ => es.length - (intOf i).toNat)
      case atStart => exact ⟨0, c0, by omega, rfl, HC.out, HDc.out, rfl, Below.refl _ _⟩
      case round =>
        obtain ⟨l, c, hl, rfl, hrc, hdc, hwg, hbl⟩ := hrel
        have HRc : Hid (Ms wr u0 c) := hrc
        have HDC : Hid (D c) := hdc
        have HW : Hid (worthGo tL tE es fs c0 = worthGo tL tE (es.drop l) (fs.drop l) c) := hwg
        have HBl : Hid (Below w.heap.size w wr) := hbl
        clear hrc hdc hwg hbl
        by_cases hll : l < es.length
        · obtain ⟨g1, off1, n, rfl, hx1, hx2, hx3, hx4⟩ := (HI.out.kp (Kp.of_below HBl.out)).at hll
          obtain ⟨g2, off2, f, a1, c1, rfl, hy1, hy2, hy3, hy4, hy5⟩ := (HF.out.kp (Kp.of_below HBl.out)).at (show l < fs.length by omega)
          have HX : Hid (es[l]? = some n) := hx1
          have HY : Hid (fs[l]? = some f) := hy1
          have HFr : Hid (Ms wr (.slice a1 f.length c1) f) := hy3
          have hn64 := HS.out.2 l n hx1
          have hlf : l < fs.length := by omega
          have HDF : Hid (D f) := HDf.out f (List.mem_of_getElem? hy1)
          clear hx1 hy1 hy3
          by_cases hn0 : n = 0
          · subst hn0
            go_wp2
            go_roundw
            case rel =>
              refine ⟨l + 1, c, by omega, by go_num, HRc.out, HDC.out, ?_, HBl.out⟩
              rw [HW.out, worthGo_at HX.out HY.out, worthGo, if_pos rfl]
            case measure => simp [intOf]; omega
          · obtain ⟨N, rfl⟩ := Int.eq_ofNat_of_zero_le hn64.1
            have hnb : ((N : Int) == 0) = false := by rw [beq_eq_false_iff_ne]; exact hn0
            have HN0 : Hid (¬ (N : Int) = 0) := hn0
            have hN1 : 1 ≤ N := by omega
            clear hn0
            go_wp2_with fail
            refine (powerM_any g _ f N _ HT.out HD.out HFr.out HDF.out hN1 (by omega) eg).mono ?_
            rintro e w1 ⟨v1, rfl, ho1, hb1⟩
            obtain ⟨PW, hPW⟩ : ∃ PW, PW = powGo tL tE [] f N (Lib.bitLen N - 1) f := ⟨_, rfl⟩
            rw [← hPW] at ho1 ⊢
            have HPW : Hid (PW = powGo tL tE [] f N (Lib.bitLen N - 1) f) := hPW
            have HO1 : Hid (Ms w1 v1 PW.1) := ho1
            have HB1 : Hid (Below w.heap.size w w1) := below_step HBl.out hb1
            have HRc1 : Hid (Ms w1 u0 c) := HRc.out.kp (Kp.of_below hb1)
            obtain ⟨E, hE⟩ : ∃ E, E = PW.2 := ⟨_, rfl⟩
            rw [← hE]
            have HE : Hid (E = PW.2) := hE
            clear hPW hE ho1 hb1
            by_cases hE0 : E = 0
            · subst hE0
              have HDP : Hid (D PW.1) := by
                show D PW.1
                rw [HPW.out]
                exact D_pow HD.out HDF.out _ _ HDF.out (by rw [← HPW.out]; exact HE.out.symm)
              go_wp2_with fail
              refine (HT.out u0 v1 c PW.1 _ HRc1.out HO1.out HDC.out HDP.out).mono ?_
              rintro e w2 ⟨v2, rfl, ho2, hb2⟩
              have HO2 : Hid (Ms w2 v2 (tL c PW.1)) := ho2
              have HB2 : Hid (Below w.heap.size w w2) := below_step HB1.out hb2
              obtain ⟨F, hF⟩ : ∃ F, F = tE c PW.1 := ⟨_, rfl⟩
              rw [← hF]
              have HFF : Hid (F = tE c PW.1) := hF
              clear hF ho2 hb2
              by_cases hF0 : F = 0
              · subst hF0
                have HDn : Hid (D (tL c PW.1)) := HD.out _ _ HDC.out HDP.out HFF.out.symm
                go_wp2
                go_roundw
                case rel =>
                  refine ⟨l + 1, tL c PW.1, by omega, by go_num, HO2.out, HDn.out, ?_, HB2.out⟩
                  rw [HW.out, worthGo_at HX.out HY.out, worthGo, if_neg HN0.out]
                  simp only [Int.toNat_natCast]
                  rw [← HPW.out, if_pos HE.out.symm, if_pos HFF.out.symm]
                case measure => simp [intOf]; omega
              · have hb0 : (F != 0) = true := by rw [bne_iff_ne]; exact hF0
                have HFi : Hid (worthV tL tE es fs c0 = ([], F)) := by
                  show _ = _
                  rw [HV.out, HW.out, worthGo_at HX.out HY.out, worthGo, if_neg HN0.out]
                  simp only [Int.toNat_natCast]
                  rw [← HPW.out, if_pos HE.out.symm, if_neg (by rw [← HFF.out]; exact hF0), ← HFF.out]
                go_wp2
                go_ret2
                exact ⟨_, ret2i (by rw [HFi.out]), by rw [HFi.out]; exact Ms.nil _, HB2.out⟩
            · have hb0 : (E != 0) = true := by rw [bne_iff_ne]; exact hE0
              have hb1 : (E == 0) = false := by rw [beq_eq_false_iff_ne]; exact hE0
              have HFi : Hid (worthV tL tE es fs c0 = ([], E)) := by
                show _ = _
                rw [HV.out, HW.out, worthGo_at HX.out HY.out, worthGo, if_neg HN0.out]
                simp only [Int.toNat_natCast]
                rw [← HPW.out, if_neg (by rw [← HE.out]; exact hE0), ← HE.out]
              go_wp2
              go_ret2
              exact ⟨_, ret2i (by rw [HFi.out]), by rw [HFi.out]; exact Ms.nil _, HB1.out⟩
        · have hle : l = es.length := by omega
          subst hle
          have HFi : Hid (worthV tL tE es fs c0 = (c, 0)) := by
            show _ = _
            rw [HV.out, HW.out, List.drop_of_length_le (Nat.le_refl _)]
            rfl
          go_wp2
          go_ret2
          exact ⟨_, ret2i (by rw [HFi.out]), by rw [HFi.out]; exact HRc.out, HBl.out⟩

end

end Go.Proofs.Ytfifgmcjilkigaa
