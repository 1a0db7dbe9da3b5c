/- Texts of the proof, one behind the other. -/
import Derived.Test.YtdjmjhlbjcgoiaaGreatDoorOwn8
/- A coefficient times the powers of factors. -/
namespace Go.Proofs.YtdjmjhlbjcgoiaaGreatDoor
open Go.RowKit Go.Maps

/-- Whether a factor with a power is nought. -/
def noughtB {β : Type} (es : List Int) (fs : List (List β)) : Bool := (List.zip es fs).any (fun p => decide (0 < p.1) && p.2.length == 0)

/-- The coefficient times the powers, one after the other. -/
def worthGo {β : Type} (tL : List β → List β → List β) (tE : List β → List β → Int) : List Int → List (List β) → List β → List β × Int
  | [], _, c => (c, 0)
  | _ :: _, [], c => (c, 0)
  | n :: es, f :: fs, c =>
    if n = 0 then worthGo tL tE es fs c
    else if (powGo tL tE [] f n.toNat (Lib.bitLen n.toNat - 1) f).2 = 0 then
      if tE c (powGo tL tE [] f n.toNat (Lib.bitLen n.toNat - 1) f).1 = 0 then worthGo tL tE es fs (tL c (powGo tL tE [] f n.toNat (Lib.bitLen n.toNat - 1) f).1)
      else ([], tE c (powGo tL tE [] f n.toNat (Lib.bitLen n.toNat - 1) f).1)
    else ([], (powGo tL tE [] f n.toNat (Lib.bitLen n.toNat - 1) f).2)

def worthV {β : Type} (tL : List β → List β → List β) (tE : List β → List β → Int) (es : List Int) (fs : List (List β)) (c : List β) : List β × Int :=
  if noughtB es fs then ([], 0) else worthGo tL tE es fs c

theorem D_pow {α : Type} {tL : α → α → α} {tE : α → α → Int} {D : α → Prop} {nil a : α} {n : Nat} (hD : ∀ x y, D x → D y → tE x y = 0 → D (tL x y)) (ha : D a) : ∀ (b : Nat) (out : α), D out → (powGo tL tE nil a n b out).2 = 0 → D (powGo tL tE nil a n b out).1
  | 0, out, ho, _ => ho
  | b + 1, out, ho, h => by
    unfold powGo at h ⊢
    split at h
    · rename_i h0
      rw [if_pos h0]
      split at h
      · rename_i h1
        rw [if_pos h1]
        split at h
        · rename_i h2
          rw [if_pos h2]
          exact D_pow hD ha b _ (hD _ _ (hD _ _ ho ho h0) ha h2) h
        · rename_i h2
          exact absurd h h2
      · rename_i h1
        rw [if_neg h1]
        exact D_pow hD ha b _ (hD _ _ ho ho h0) h
    · rename_i h0
      exact absurd h h0

theorem nought_at {β : Type} {es : List Int} {fs : List (List β)} {k : Nat} {n : Int} {f : List β} (h : es[k]? = some n) (h' : fs[k]? = some f) (hn : 0 < n) (hf : f.length = 0) : noughtB es fs = true := by
  unfold noughtB
  rw [List.any_eq_true]
  refine ⟨(n, f), List.mem_of_getElem? (i := k) ?_, by simp [hn, hf]⟩
  rw [List.getElem?_zip_eq_some]
  exact ⟨h, h'⟩

theorem nought_no {β : Type} {es : List Int} {fs : List (List β)} (h : ∀ (k : Nat) (n : Int) (f : List β), es[k]? = some n → fs[k]? = some f → 0 < n → ¬ f.length = 0) : noughtB es fs = false := by
  unfold noughtB
  rw [List.any_eq_false]
  intro p hp
  obtain ⟨k, hk⟩ := List.mem_iff_getElem?.1 hp
  rw [List.getElem?_zip_eq_some] at hk
  have := h k p.1 p.2 hk.1 hk.2
  simp
  intro h0 hnil
  exact this h0 (by rw [hnil]; rfl)

theorem worthGo_at {β : Type} {tL : List β → List β → List β} {tE : List β → List β → Int} {es : List Int} {fs : List (List β)} {k : Nat} {n : Int} {f c : List β} (h : es[k]? = some n) (h' : fs[k]? = some f) :
    worthGo tL tE (es.drop k) (fs.drop k) c = worthGo tL tE (n :: es.drop (k + 1)) (f :: fs.drop (k + 1)) c := by rw [drop_getY h, drop_getY h']

section

variable {tL : List Nat → List Nat → List Nat} {tE : List Nat → List Nat → Int} {D : List Nat → Prop}

set_option maxRecDepth 100000 in
set_option maxHeartbeats 1600000 in
theorem worthN_any (g : FuncId) (v ev fv : Value) (c0 : List Nat) (es : List Int) (fs : List (List Nat)) (w : World) (ht : Times Sl D tL tE g) (hD : ∀ x y, D x → D y → tE x y = 0 → D (tL x y)) (h : Sl w v c0) (he : Is w ev es) (hf : RsY w fv fs) (hdc : D c0) (hdf : ∀ f ∈ fs, D f)
    (hs : Small es) (hlen : es.length ≤ fs.length) (eg : ∀ args w, (callFunc g args).run Tryz.prog w = .ok (.enter g args) w) :
    Calls Tryz.prog 69 #[v, ev, fv, .func (.func g) #[] #[]] w fun e w' => ∃ v', e = .returned (.tuple #[v', .int .i64 (worthV tL tE es fs c0).2]) ∧ Sl w' v' (worthV tL tE es fs c0).1 ∧ Below w.heap.size w w' := by
  obtain ⟨ao, cap, rfl, hao, hca, q0⟩ := Row.flat he
  obtain ⟨bo, cap', rfl, hbo, hcb, q0'⟩ := Row.flat hf
  unfold maxLen at hca hcb
  have HT : Hid (Times Sl D tL tE g) := ht
  have HD : Hid (∀ x y, D x → D y → tE x y = 0 → D (tL x y)) := hD
  have HC : Hid (Sl w v c0) := h
  have HI : Hid (Is w (.slice ao es.length cap) es) := he
  have HF : Hid (RsY w (.slice bo fs.length cap') fs) := hf
  have HDc : Hid (D c0) := hdc
  have HDf : Hid (∀ f ∈ fs, D f) := hdf
  have HS : Hid (Small es) := hs
  clear ht hD h he hf hdc hdf hs q0 q0'
  go_enter Tryz.func69, Tryz.ntmps69
  go_wp2
  go_loopw [18] (fun i wr => ∃ k : Nat, k ≤ es.length ∧ i = .int .i64 k ∧ (∀ (j : Nat) (n : Int) (f : List Nat), j < k → es[j]? = some n → fs[j]? = some f → 0 < n → ¬ f.length = 0) ∧ wr = w) (fun i _ => es.length - (intOf i).toNat)
  case atStart => exact ⟨0, by omega, rfl, fun j n f hj => absurd hj (by omega), rfl⟩
  case round =>
    obtain ⟨k, hk, rfl, hp, hw⟩ := hrel
    have hw8 := hw.symm
    subst hw8
    clear hw
    have HP : Hid (∀ (j : Nat) (n : Int) (f : List Nat), j < k → es[j]? = some n → fs[j]? = some f → 0 < n → ¬ f.length = 0) := hp
    clear hp
    by_cases hlt : k < es.length
    · obtain ⟨g1, off1, n, rfl, hx1, hx2, hx3, hx4⟩ := HI.out.at hlt
      obtain ⟨g2, off2, f, a1, c1, rfl, hy1, hy2, hy3, hy4, hy5⟩ := HF.out.at (show k < fs.length by omega)
      have HX : Hid (es[k]? = some n) := hx1
      have HY : Hid (fs[k]? = some f) := hy1
      have hkf : k < fs.length := by omega
      clear hx1 hy1 hy3
      by_cases hn : 0 < n
      · by_cases hf0 : f.length = 0
        · have hfb : ((f.length : Int) == 0) = true := by rw [beq_iff_eq]; omega
          have HN : Hid (worthV tL tE es fs c0 = ([], 0)) := by
            show _ = _
            unfold worthV
            rw [if_pos (nought_at HX.out HY.out hn hf0)]
          clear hf0
          go_wp2
          go_ret2
          exact ⟨_, ret2i (by rw [HN.out]), by rw [HN.out]; exact Sl.nil _, Below.refl _ _⟩
        · have hfb : ((f.length : Int) == 0) = false := by rw [beq_eq_false_iff_ne]; omega
          go_wp2
          go_roundw
          case rel =>
            refine ⟨k + 1, by omega, by go_num, fun j m q hj h1 h2 h3 => ?_, trivial⟩
            by_cases hjk : j = k
            · subst hjk; rw [HY.out] at h2; cases h2; exact hf0
            · exact HP.out j m q (by omega) h1 h2 h3
          case measure => simp [intOf]; omega
      · go_wp2
        go_roundw
        case rel =>
          refine ⟨k + 1, by omega, by go_num, fun j m q hj h1 h2 h3 => ?_, trivial⟩
          by_cases hjk : j = k
          · subst hjk; rw [HX.out] at h1; cases h1; exact absurd h3 hn
          · exact HP.out j m q (by omega) h1 h2 h3
        case measure => simp [intOf]; omega
    · have hke : k = es.length := by omega
      subst hke
      have hno : noughtB es fs = false := nought_no (fun j n f h1 h2 h3 => HP.out j n f (List.getElem?_eq_some_iff.1 h1).1 h1 h2 h3)
      have HV : Hid (worthV tL tE es fs c0 = worthGo tL tE es fs c0) := by
        show _ = _
        unfold worthV
        rw [hno]
        rfl
      clear hno HP
      go_wp2
      go_loopw [0, 36] (fun x i wr => ∃ (l : Nat) (c : List Nat), l ≤ es.length ∧ i = .int .i64 l ∧ Sl wr x c ∧ D c ∧ worthGo tL tE es fs c0 = worthGo tL tE (es.drop l) (fs.drop l) c ∧ Below w.heap.size w wr) (fun _ i _ => es.length - (intOf i).toNat)
      case atStart => exact ⟨0, c0, by omega, rfl, HC.out, HDc.out, rfl, Below.refl _ _⟩
      case round =>
        obtain ⟨l, c, hl, rfl, hrc, hdc, hwg, hbl⟩ := hrel
        have HRc : Hid (Sl wr u0 c) := hrc
        have HDC : Hid (D c) := hdc
        have HW : Hid (worthGo tL tE es fs c0 = worthGo tL tE (es.drop l) (fs.drop l) c) := hwg
        have HBl : Hid (Below w.heap.size w wr) := hbl
        clear hrc hdc hwg hbl
        by_cases hll : l < es.length
        · obtain ⟨g1, off1, n, rfl, hx1, hx2, hx3, hx4⟩ := (HI.out.kp (Kp.of_below HBl.out)).at hll
          obtain ⟨g2, off2, f, a1, c1, rfl, hy1, hy2, hy3, hy4, hy5⟩ := (HF.out.kp (Kp.of_below HBl.out)).at (show l < fs.length by omega)
          have HX : Hid (es[l]? = some n) := hx1
          have HY : Hid (fs[l]? = some f) := hy1
          have HFr : Hid (Sl wr (.slice a1 f.length c1) f) := hy3
          have hn64 := HS.out.2 l n hx1
          have hlf : l < fs.length := by omega
          have HDF : Hid (D f) := HDf.out f (List.mem_of_getElem? hy1)
          clear hx1 hy1 hy3
          by_cases hn0 : n = 0
          · subst hn0
            go_wp2
            go_roundw
            case rel =>
              refine ⟨l + 1, c, by omega, by go_num, HRc.out, HDC.out, ?_, HBl.out⟩
              rw [HW.out, worthGo_at HX.out HY.out, worthGo, if_pos rfl]
            case measure => simp [intOf]; omega
          · obtain ⟨N, rfl⟩ := Int.eq_ofNat_of_zero_le hn64.1
            have hnb : ((N : Int) == 0) = false := by rw [beq_eq_false_iff_ne]; exact hn0
            have HN0 : Hid (¬ (N : Int) = 0) := hn0
            have hN1 : 1 ≤ N := by omega
            clear hn0
            go_wp2_with fail
            refine (powerN_any g _ f N _ HT.out HD.out HFr.out HDF.out hN1 (by omega) eg).mono ?_
            rintro e w1 ⟨v1, rfl, ho1, hb1⟩
            obtain ⟨PW, hPW⟩ : ∃ PW, PW = powGo tL tE [] f N (Lib.bitLen N - 1) f := ⟨_, rfl⟩
            rw [← hPW] at ho1 ⊢
            have HPW : Hid (PW = powGo tL tE [] f N (Lib.bitLen N - 1) f) := hPW
            have HO1 : Hid (Sl w1 v1 PW.1) := ho1
            have HB1 : Hid (Below w.heap.size w w1) := below_step HBl.out hb1
            have HRc1 : Hid (Sl w1 u0 c) := HRc.out.kp (Kp.of_below hb1)
            obtain ⟨E, hE⟩ : ∃ E, E = PW.2 := ⟨_, rfl⟩
            rw [← hE]
            have HE : Hid (E = PW.2) := hE
            clear hPW hE ho1 hb1
            by_cases hE0 : E = 0
            · subst hE0
              have HDP : Hid (D PW.1) := by
                show D PW.1
                rw [HPW.out]
                exact D_pow HD.out HDF.out _ _ HDF.out (by rw [← HPW.out]; exact HE.out.symm)
              go_wp2_with fail
              refine (HT.out u0 v1 c PW.1 _ HRc1.out HO1.out HDC.out HDP.out).mono ?_
              rintro e w2 ⟨v2, rfl, ho2, hb2⟩
              have HO2 : Hid (Sl w2 v2 (tL c PW.1)) := ho2
              have HB2 : Hid (Below w.heap.size w w2) := below_step HB1.out hb2
              obtain ⟨F, hF⟩ : ∃ F, F = tE c PW.1 := ⟨_, rfl⟩
              rw [← hF]
              have HFF : Hid (F = tE c PW.1) := hF
              clear hF ho2 hb2
              by_cases hF0 : F = 0
              · subst hF0
                have HDn : Hid (D (tL c PW.1)) := HD.out _ _ HDC.out HDP.out HFF.out.symm
                go_wp2
                go_roundw
                case rel =>
                  refine ⟨l + 1, tL c PW.1, by omega, by go_num, HO2.out, HDn.out, ?_, HB2.out⟩
                  rw [HW.out, worthGo_at HX.out HY.out, worthGo, if_neg HN0.out]
                  simp only [Int.toNat_natCast]
                  rw [← HPW.out, if_pos HE.out.symm, if_pos HFF.out.symm]
                case measure => simp [intOf]; omega
              · have hb0 : (F != 0) = true := by rw [bne_iff_ne]; exact hF0
                have HFi : Hid (worthV tL tE es fs c0 = ([], F)) := by
                  show _ = _
                  rw [HV.out, HW.out, worthGo_at HX.out HY.out, worthGo, if_neg HN0.out]
                  simp only [Int.toNat_natCast]
                  rw [← HPW.out, if_pos HE.out.symm, if_neg (by rw [← HFF.out]; exact hF0), ← HFF.out]
                go_wp2
                go_ret2
                exact ⟨_, ret2i (by rw [HFi.out]), by rw [HFi.out]; exact Sl.nil _, HB2.out⟩
            · have hb0 : (E != 0) = true := by rw [bne_iff_ne]; exact hE0
              have hb1 : (E == 0) = false := by rw [beq_eq_false_iff_ne]; exact hE0
              have HFi : Hid (worthV tL tE es fs c0 = ([], E)) := by
                show _ = _
                rw [HV.out, HW.out, worthGo_at HX.out HY.out, worthGo, if_neg HN0.out]
                simp only [Int.toNat_natCast]
                rw [← HPW.out, if_neg (by rw [← HE.out]; exact hE0), ← HE.out]
              go_wp2
              go_ret2
              exact ⟨_, ret2i (by rw [HFi.out]), by rw [HFi.out]; exact Sl.nil _, HB1.out⟩
        · have hle : l = es.length := by omega
          subst hle
          have HFi : Hid (worthV tL tE es fs c0 = (c, 0)) := by
            show _ = _
            rw [HV.out, HW.out, List.drop_of_length_le (Nat.le_refl _)]
            rfl
          go_wp2
          go_ret2
          exact ⟨_, ret2i (by rw [HFi.out]), by rw [HFi.out]; exact HRc.out, HBl.out⟩

end

section

variable {tL : List Mn → List Mn → List Mn} {tE : List Mn → List Mn → Int} {D : List Mn → Prop}

set_option maxRecDepth 100000 in
set_option maxHeartbeats 1600000 in
theorem worthM_any (g : FuncId) (v ev fv : Value) (c0 : List Mn) (es : List Int) (fs : List (List Mn)) (w : World) (ht : Times Ms D tL tE g) (hD : ∀ x y, D x → D y → tE x y = 0 → D (tL x y)) (h : Ms w v c0) (he : Is w ev es) (hf : Ps w fv fs) (hdc : D c0) (hdf : ∀ f ∈ fs, D f)
    (hs : Small es) (hlen : es.length ≤ fs.length) (eg : ∀ args w, (callFunc g args).run Tryz.prog w = .ok (.enter g args) w) :
    Calls Tryz.prog 64 #[v, ev, fv, .func (.func g) #[] #[]] w fun e w' => ∃ v', e = .returned (.tuple #[v', .int .i64 (worthV tL tE es fs c0).2]) ∧ Ms w' v' (worthV tL tE es fs c0).1 ∧ Below w.heap.size w w' := by
  obtain ⟨ao, cap, rfl, hao, hca, q0⟩ := Row.flat he
  obtain ⟨bo, cap', rfl, hbo, hcb, q0'⟩ := Row.flat hf
  unfold maxLen at hca hcb
  have HT : Hid (Times Ms D tL tE g) := ht
  have HD : Hid (∀ x y, D x → D y → tE x y = 0 → D (tL x y)) := hD
  have HC : Hid (Ms w v c0) := h
  have HI : Hid (Is w (.slice ao es.length cap) es) := he
  have HF : Hid (Ps w (.slice bo fs.length cap') fs) := hf
  have HDc : Hid (D c0) := hdc
  have HDf : Hid (∀ f ∈ fs, D f) := hdf
  have HS : Hid (Small es) := hs
  clear ht hD h he hf hdc hdf hs q0 q0'
  go_enter Tryz.func64, Tryz.ntmps64
  go_wp2
  go_loopw [18] (fun i wr => ∃ k : Nat, k ≤ es.length ∧ i = .int .i64 k ∧ (∀ (j : Nat) (n : Int) (f : List Mn), j < k → es[j]? = some n → fs[j]? = some f → 0 < n → ¬ f.length = 0) ∧ wr = w) (fun i _ => es.length - (intOf i).toNat)
  case atStart => exact ⟨0, by omega, rfl, fun j n f hj => absurd hj (by omega), rfl⟩
  case round =>
    obtain ⟨k, hk, rfl, hp, hw⟩ := hrel
    have hw8 := hw.symm
    subst hw8
    clear hw
    have HP : Hid (∀ (j : Nat) (n : Int) (f : List Mn), j < k → es[j]? = some n → fs[j]? = some f → 0 < n → ¬ f.length = 0) := hp
    clear hp
    by_cases hlt : k < es.length
    · obtain ⟨g1, off1, n, rfl, hx1, hx2, hx3, hx4⟩ := HI.out.at hlt
      obtain ⟨g2, off2, f, a1, c1, rfl, hy1, hy2, hy3, hy4, hy5⟩ := HF.out.at (show k < fs.length by omega)
      have HX : Hid (es[k]? = some n) := hx1
      have HY : Hid (fs[k]? = some f) := hy1
      have hkf : k < fs.length := by omega
      clear hx1 hy1 hy3
      by_cases hn : 0 < n
      · by_cases hf0 : f.length = 0
        · have hfb : ((f.length : Int) == 0) = true := by rw [beq_iff_eq]; omega
          have HN : Hid (worthV tL tE es fs c0 = ([], 0)) := by
            show _ = _
            unfold worthV
            rw [if_pos (nought_at HX.out HY.out hn hf0)]
          clear hf0
          go_wp2
          go_ret2
          exact ⟨_, ret2i (by rw [HN.out]), by rw [HN.out]; exact Ms.nil _, Below.refl _ _⟩
        · have hfb : ((f.length : Int) == 0) = false := by rw [beq_eq_false_iff_ne]; omega
          go_wp2
          go_roundw
          case rel =>
            refine ⟨k + 1, by omega, by go_num, fun j m q hj h1 h2 h3 => ?_, trivial⟩
            by_cases hjk : j = k
            · subst hjk; rw [HY.out] at h2; cases h2; exact hf0
            · exact HP.out j m q (by omega) h1 h2 h3
          case measure => simp [intOf]; omega
      · go_wp2
        go_roundw
        case rel =>
          refine ⟨k + 1, by omega, by go_num, fun j m q hj h1 h2 h3 => ?_, trivial⟩
          by_cases hjk : j = k
          · subst hjk; rw [HX.out] at h1; cases h1; exact absurd h3 hn
          · exact HP.out j m q (by omega) h1 h2 h3
        case measure => simp [intOf]; omega
    · have hke : k = es.length := by omega
      subst hke
      have hno : noughtB es fs = false := nought_no (fun j n f h1 h2 h3 => HP.out j n f (List.getElem?_eq_some_iff.1 h1).1 h1 h2 h3)
      have HV : Hid (worthV tL tE es fs c0 = worthGo tL tE es fs c0) := by
        show _ = _
        unfold worthV
        rw [hno]
        rfl
      clear hno HP
      go_wp2
      go_loopw [0, 36] (fun x i wr => ∃ (l : Nat) (c : List Mn), l ≤ es.length ∧ i = .int .i64 l ∧ Ms wr x c ∧ D c ∧ worthGo tL tE es fs c0 = worthGo tL tE (es.drop l) (fs.drop l) c ∧ Below w.heap.size w wr) (fun _ i _ => es.length - (intOf i).toNat)
      case atStart => exact ⟨0, c0, by omega, rfl, HC.out, HDc.out, rfl, Below.refl _ _⟩
      case round =>
        obtain ⟨l, c, hl, rfl, hrc, hdc, hwg, hbl⟩ := hrel
        have HRc : Hid (Ms wr u0 c) := hrc
        have HDC : Hid (D c) := hdc
        have HW : Hid (worthGo tL tE es fs c0 = worthGo tL tE (es.drop l) (fs.drop l) c) := hwg
        have HBl : Hid (Below w.heap.size w wr) := hbl
        clear hrc hdc hwg hbl
        by_cases hll : l < es.length
        · obtain ⟨g1, off1, n, rfl, hx1, hx2, hx3, hx4⟩ := (HI.out.kp (Kp.of_below HBl.out)).at hll
          obtain ⟨g2, off2, f, a1, c1, rfl, hy1, hy2, hy3, hy4, hy5⟩ := (HF.out.kp (Kp.of_below HBl.out)).at (show l < fs.length by omega)
          have HX : Hid (es[l]? = some n) := hx1
          have HY : Hid (fs[l]? = some f) := hy1
          have HFr : Hid (Ms wr (.slice a1 f.length c1) f) := hy3
          have hn64 := HS.out.2 l n hx1
          have hlf : l < fs.length := by omega
          have HDF : Hid (D f) := HDf.out f (List.mem_of_getElem? hy1)
          clear hx1 hy1 hy3
          by_cases hn0 : n = 0
          · subst hn0
            go_wp2
            go_roundw
            case rel =>
              refine ⟨l + 1, c, by omega, by go_num, HRc.out, HDC.out, ?_, HBl.out⟩
              rw [HW.out, worthGo_at HX.out HY.out, worthGo, if_pos rfl]
            case measure => simp [intOf]; omega
          · obtain ⟨N, rfl⟩ := Int.eq_ofNat_of_zero_le hn64.1
            have hnb : ((N : Int) == 0) = false := by rw [beq_eq_false_iff_ne]; exact hn0
            have HN0 : Hid (¬ (N : Int) = 0) := hn0
            have hN1 : 1 ≤ N := by omega
            clear hn0
            go_wp2_with fail
            refine (powerM_any g _ f N _ HT.out HD.out HFr.out HDF.out hN1 (by omega) eg).mono ?_
            rintro e w1 ⟨v1, rfl, ho1, hb1⟩
            obtain ⟨PW, hPW⟩ : ∃ PW, PW = powGo tL tE [] f N (Lib.bitLen N - 1) f := ⟨_, rfl⟩
            rw [← hPW] at ho1 ⊢
            have HPW : Hid (PW = powGo tL tE [] f N (Lib.bitLen N - 1) f) := hPW
            have HO1 : Hid (Ms w1 v1 PW.1) := ho1
            have HB1 : Hid (Below w.heap.size w w1) := below_step HBl.out hb1
            have HRc1 : Hid (Ms w1 u0 c) := HRc.out.kp (Kp.of_below hb1)
            obtain ⟨E, hE⟩ : ∃ E, E = PW.2 := ⟨_, rfl⟩
            rw [← hE]
            have HE : Hid (E = PW.2) := hE
            clear hPW hE ho1 hb1
            by_cases hE0 : E = 0
            · subst hE0
              have HDP : Hid (D PW.1) := by
                show D PW.1
                rw [HPW.out]
                exact D_pow HD.out HDF.out _ _ HDF.out (by rw [← HPW.out]; exact HE.out.symm)
              go_wp2_with fail
              refine (HT.out u0 v1 c PW.1 _ HRc1.out HO1.out HDC.out HDP.out).mono ?_
              rintro e w2 ⟨v2, rfl, ho2, hb2⟩
              have HO2 : Hid (Ms w2 v2 (tL c PW.1)) := ho2
              have HB2 : Hid (Below w.heap.size w w2) := below_step HB1.out hb2
              obtain ⟨F, hF⟩ : ∃ F, F = tE c PW.1 := ⟨_, rfl⟩
              rw [← hF]
              have HFF : Hid (F = tE c PW.1) := hF
              clear hF ho2 hb2
              by_cases hF0 : F = 0
              · subst hF0
                have HDn : Hid (D (tL c PW.1)) := HD.out _ _ HDC.out HDP.out HFF.out.symm
                go_wp2
                go_roundw
                case rel =>
                  refine ⟨l + 1, tL c PW.1, by omega, by go_num, HO2.out, HDn.out, ?_, HB2.out⟩
                  rw [HW.out, worthGo_at HX.out HY.out, worthGo, if_neg HN0.out]
                  simp only [Int.toNat_natCast]
                  rw [← HPW.out, if_pos HE.out.symm, if_pos HFF.out.symm]
                case measure => simp [intOf]; omega
              · have hb0 : (F != 0) = true := by rw [bne_iff_ne]; exact hF0
                have HFi : Hid (worthV tL tE es fs c0 = ([], F)) := by
                  show _ = _
                  rw [HV.out, HW.out, worthGo_at HX.out HY.out, worthGo, if_neg HN0.out]
                  simp only [Int.toNat_natCast]
                  rw [← HPW.out, if_pos HE.out.symm, if_neg (by rw [← HFF.out]; exact hF0), ← HFF.out]
                go_wp2
                go_ret2
                exact ⟨_, ret2i (by rw [HFi.out]), by rw [HFi.out]; exact Ms.nil _, HB2.out⟩
            · have hb0 : (E != 0) = true := by rw [bne_iff_ne]; exact hE0
              have hb1 : (E == 0) = false := by rw [beq_eq_false_iff_ne]; exact hE0
              have HFi : Hid (worthV tL tE es fs c0 = ([], E)) := by
                show _ = _
                rw [HV.out, HW.out, worthGo_at HX.out HY.out, worthGo, if_neg HN0.out]
                simp only [Int.toNat_natCast]
                rw [← HPW.out, if_neg (by rw [← HE.out]; exact hE0), ← HE.out]
              go_wp2
              go_ret2
              exact ⟨_, ret2i (by rw [HFi.out]), by rw [HFi.out]; exact Ms.nil _, HB1.out⟩
        · have hle : l = es.length := by omega
          subst hle
          have HFi : Hid (worthV tL tE es fs c0 = (c, 0)) := by
            show _ = _
            rw [HV.out, HW.out, List.drop_of_length_le (Nat.le_refl _)]
            rfl
          go_wp2
          go_ret2
          exact ⟨_, ret2i (by rw [HFi.out]), by rw [HFi.out]; exact HRc.out, HBl.out⟩

end

end Go.Proofs.YtdjmjhlbjcgoiaaGreatDoor

/- What Compose and Value answer. -/
namespace Go.Proofs.YtdjmjhlbjcgoiaaGreatDoor
open Go.RowKit Go.Maps

def DomM (p : List Mn) : Prop := ∀ (k : Nat) (m : Mn), p[k]? = some m → Small m.2

def KeysLe (L : LkY) : Prop := ∀ p ∈ L, p.1.length = 512 ∧ ∀ x ∈ p.1, x ≤ 64

theorem mem_insK' {L : LkY} {k c : List Nat} {q : List Nat × List Nat} (h : q ∈ insK L k c) : q = (k, c) ∨ q ∈ L := by
  induction L with
  | nil => simp [insK] at h; exact .inl h
  | cons p r ih =>
    unfold insK at h
    split at h
    · rcases List.mem_cons.1 h with h | h
      · exact .inl h
      · exact .inr (by simp [h])
    · split at h
      · rcases List.mem_cons.1 h with h | h
        · exact .inl h
        · exact .inr h
      · rcases List.mem_cons.1 h with h | h
        · exact .inr (by simp [h])
        · rcases ih h with h | h
          · exact .inl h
          · exact .inr (by simp [h])

theorem keysLe_putL {L : LkY} {k c : List Nat} (h : KeysLe L) (hk : k.length = 512 ∧ ∀ x ∈ k, x ≤ 64) : KeysLe (putL L k c) := by
  unfold putL
  split
  · intro q hq
    rcases mem_insK' hq with rfl | hq
    · exact hk
    · exact h q hq
  · exact h

theorem raised_le {ks : List Nat} {es : List Int} (hk : ks.length = 512) (hs : Small es) (h0 : raisedE ks es = 0) : (raisedK ks es).length = 512 ∧ ∀ x ∈ raisedK ks es, x ≤ 64 := by
  refine ⟨len_raised hk hs, ?_⟩
  have ha : (addK ks (keyX es)).all (fun n => decide (n ≤ 64)) = true := by
    unfold raisedE at h0
    split at h0
    · assumption
    · omega
  unfold raisedK
  rw [if_pos ha]
  rw [List.all_eq_true] at ha
  intro x hx
  simpa using ha x hx

theorem keysLe_prodIn {m : Mn} (hm : Small m.2) {q : List Mn} : DomM q → ∀ {L : LkY}, KeysLe L → KeysLe (prodIn m L q).1 := by
  induction q with
  | nil => intro _ L h; exact h
  | cons n r ih =>
    intro hq L h
    have hn : Small n.2 := hq 0 n rfl
    have hr : DomM r := fun k m hk => hq (k + 1) m hk
    unfold prodIn
    split
    · rename_i h0
      have hk := keysLe_putL (c := mulL m.1 n.1) h (raised_le (keyX_len hm.1) hn h0)
      split
      · split
        · exact ih hr hk
        · exact hk
      · exact h
    · exact h

theorem keysLe_prods {q : List Mn} (hq : DomM q) {p : List Mn} : DomM p → ∀ {L : LkY}, KeysLe L → KeysLe (prods q L p).1 := by
  induction p with
  | nil => intro _ L h; exact h
  | cons m r ih =>
    intro hp L h
    have hm : Small m.2 := hp 0 m rfl
    have hr : DomM r := fun k m hk => hp (k + 1) m hk
    unfold prods
    split
    · exact ih hr (keysLe_prodIn hm hq h)
    · exact keysLe_prodIn hm hq h

theorem small_unX {ks : List Nat} (h : ks.length = 512 ∧ ∀ x ∈ ks, x ≤ 64) : Small (unX ks) := by
  refine ⟨by unfold unX; simp; omega, fun k x hk => ?_⟩
  unfold unX at hk
  rw [List.getElem?_map] at hk
  cases hy : (ks.take (topK ks))[k]? with
  | none => rw [hy] at hk; cases hk
  | some y =>
    rw [hy] at hk
    have hy2 := h.2 y (List.mem_of_mem_take (List.mem_of_getElem? hy))
    simp at hk
    omega

theorem domM_row {L : LkY} (h : KeysLe L) : DomM (rowLY L) := by
  intro k m hk
  unfold rowLY at hk
  rw [List.getElem?_map] at hk
  cases hp : L[k]? with
  | none => rw [hp] at hk; cases hk
  | some p =>
    rw [hp] at hk
    simp at hk
    subst hk
    exact small_unX (h p (List.mem_of_getElem? hp))

theorem domM_nil : DomM [] := fun k m h => by simp at h

theorem domM_prod (p q : List Mn) (hp : DomM p) (hq : DomM q) (h0 : prodE p q = 0) : DomM (prodL p q) := by
  unfold prodL
  rw [if_pos h0]
  exact domM_row (keysLe_prods hq hp (fun p h => by cases h))

theorem timesM : Times Ms DomM prodL prodE 65 := fun v u a b w h h' ha hb =>
  (pprod_any v u a b w h h' ha hb).mono fun _ _ ⟨v', he, ho, hbl⟩ => ⟨v', he, ho.ms, hbl⟩

theorem timesN : Times Sl (fun _ => True) mulL mulE 70 := fun v u a b w h h' _ _ =>
  (mul_any v u a b w h h').mono fun _ _ ⟨v', he, ho, hbl⟩ => ⟨v', he, ho.sl, hbl⟩

theorem enterM : ∀ args w, (callFunc 65 args).run Tryz.prog w = .ok (.enter 65 args) w := enters_of Tryz.func65 (by kernel_rfl) rfl

theorem enterN : ∀ args w, (callFunc 70 args).run Tryz.prog w = .ok (.enter 70 args) w := enters_of Tryz.func70 (by kernel_rfl) rfl

theorem D_worth {β : Type} {tL : List β → List β → List β} {tE : List β → List β → Int} {D : List β → Prop} (hD : ∀ x y, D x → D y → tE x y = 0 → D (tL x y)) : ∀ (es : List Int) (fs : List (List β)) (c : List β), (∀ f ∈ fs, D f) → D c → (worthGo tL tE es fs c).2 = 0 → D (worthGo tL tE es fs c).1
  | [], _, c, _, hc, _ => by unfold worthGo; exact hc
  | _ :: _, [], c, _, hc, _ => by unfold worthGo; exact hc
  | n :: es, f :: fs, c, hf, hc, h => by
    unfold worthGo at h ⊢
    split at h
    · rename_i h0
      rw [if_pos h0]
      exact D_worth hD es fs c (fun x hx => hf x (by simp [hx])) hc h
    · rename_i h0
      rw [if_neg h0]
      split at h
      · rename_i h1
        rw [if_pos h1]
        split at h
        · rename_i h2
          rw [if_pos h2]
          have hff := hf f (by simp)
          exact D_worth hD es fs _ (fun x hx => hf x (by simp [hx])) (hD _ _ hc (D_pow hD hff _ _ hff h1) h2) h
        · rename_i h2
          exact absurd h h2
      · rename_i h1
        exact absurd h h1

/-- Compose, monomial by monomial. -/
def compGo (args : List (List Mn)) : LkY → List Mn → LkY × Int
  | L, [] => (L, 0)
  | L, m :: r =>
    if (worthV prodL prodE m.2 args [(m.1, [])]).2 = 0 then
      if (puts L (worthV prodL prodE m.2 args [(m.1, [])]).1).2 = 0 then compGo args (puts L (worthV prodL prodE m.2 args [(m.1, [])]).1).1 r
      else puts L (worthV prodL prodE m.2 args [(m.1, [])]).1
    else (L, (worthV prodL prodE m.2 args [(m.1, [])]).2)

def compE (p : List Mn) (args : List (List Mn)) : Int :=
  if checkAllE [p] = 0 then if checkAllE args = 0 then if varsN p ≤ args.length then (compGo args [] p).2 else 21 else checkAllE args else checkAllE [p]

def compL (p : List Mn) (args : List (List Mn)) : List Mn := if compE p args = 0 then rowLY (compGo args [] p).1 else []

/-- Value, monomial by monomial. -/
def valGo (at_ : List (List Nat)) : List Nat → List Mn → List Nat × Int
  | t, [] => (t, 0)
  | t, m :: r =>
    if (worthV mulL mulE m.2 at_ m.1).2 = 0 then
      if addE t (worthV mulL mulE m.2 at_ m.1).1 = 0 then valGo at_ (addL t (worthV mulL mulE m.2 at_ m.1).1) r
      else ([], addE t (worthV mulL mulE m.2 at_ m.1).1)
    else ([], (worthV mulL mulE m.2 at_ m.1).2)

def valE (p : List Mn) (at_ : List (List Nat)) : Int :=
  if checkAllE [p] = 0 then if varsN p ≤ at_.length then if at_.all rightB then (valGo at_ [] p).2 else 10 else 21 else checkAllE [p]

def valL (p : List Mn) (at_ : List (List Nat)) : List Nat := if valE p at_ = 0 then (valGo at_ [] p).1 else []

theorem checkAll1 {p : List Mn} (h : checkAllE [p] = 0) : checkE p 9223372036854775807 = 0 := by
  unfold checkAllE at h
  split at h
  · assumption
  · rename_i h1
    exact absurd h h1

theorem checkAll_mem : ∀ {ps : List (List Mn)}, checkAllE ps = 0 → ∀ p ∈ ps, DomM p
  | [], _, p, hp => by cases hp
  | q :: r, h, p, hp => by
    unfold checkAllE at h
    split at h
    · rename_i h1
      rcases List.mem_cons.1 hp with rfl | hp
      · exact small_of_check h1
      · exact checkAll_mem h p hp
    · rename_i h1
      exact absurd h h1

theorem varsN_ge {p : List Mn} : ∀ {k : Nat} {m : Mn}, p[k]? = some m → m.2.length ≤ varsN p := by
  intro k m hk
  have h1 := varsN_step hk
  have h2 : ∀ (l : List Mn) (a : Nat), a ≤ l.foldl (fun a m => max a m.2.length) a := by
    intro l
    induction l with
    | nil => intro a; simp
    | cons x r ih => intro a; simp only [List.foldl_cons]; exact Nat.le_trans (by omega) (ih _)
  have h3 : varsN (p.take (k + 1)) ≤ varsN p := by
    conv => rhs; rw [← List.take_append_drop (k + 1) p]
    unfold varsN
    rw [List.foldl_append]
    exact h2 _ _
  omega

end Go.Proofs.YtdjmjhlbjcgoiaaGreatDoor

/- What Compose and Value answer: the walks. -/
namespace Go.Proofs.YtdjmjhlbjcgoiaaGreatDoor
open Go.RowKit Go.Maps

theorem ms_one {w : World} {cv : Value} {c : List Nat} (h : Sl w cv c) : Ms (w.alloc (.cells #[cv, .slice none 0 0] 37)) (.slice (some ⟨w.heap.size, 0, none⟩) 1 1) [(c, [])] := by
  have hk := Kp.of_below (below_alloc (w := w) (.cells #[cv, .slice none 0 0] 37))
  refine ⟨_, 1, rfl, by simp, by simp [maxLen], fun _ => ⟨w.heap.size, 0, rfl, by simp, ?_⟩⟩
  intro k x hk2
  have hlt := (List.getElem?_eq_some_iff.1 hk2).1
  match k, hlt with
  | 0, _ =>
    simp only [List.getElem?_cons_zero, Option.some.injEq] at hk2
    subst hk2
    exact ⟨cv, .slice none 0 0, by simp, by simp, h.kp hk, Row.nil (by simp [maxLen])⟩

theorem domM_one (c : List Nat) : DomM [(c, [])] := by
  intro k m hk
  have hlt := (List.getElem?_eq_some_iff.1 hk).1
  match k, hlt with
  | 0, _ =>
    simp only [List.getElem?_cons_zero, Option.some.injEq] at hk
    subst hk
    exact ⟨by simp, fun j x hj => by simp at hj⟩

set_option maxRecDepth 100000 in
set_option maxHeartbeats 600000 in
theorem compose_any (v av : Value) (p : List Mn) (args : List (List Mn)) (w : World) (h : Ms w v p) (h' : Ps w av args) :
    Calls Tryz.prog 26 #[v, av] w fun e w' => ∃ v', e = .returned (.tuple #[v', .int .i64 (compE p args)]) ∧ OM w' w.heap.size v' (compL p args) ∧ Below w.heap.size w w' := by
  obtain ⟨ao, cap, rfl, hao, hca, q0⟩ := Row.flat h
  obtain ⟨bo, cap', rfl, hbo, hcb, q0'⟩ := Row.flat h'
  unfold maxLen at hca hcb
  have HP : Hid (Ms w (.slice ao p.length cap) p) := h
  have HQ : Hid (Ps w (.slice bo args.length cap') args) := h'
  have H1 : Hid _ := ps1 h
  have hmm := @run_makeMap Tryz.prog
  clear h h' q0 q0'
  go_enter Tryz.func26, Tryz.ntmps26
  go_wp2_with fail
  refine (checkAll_any _ [p] _ H1.out).mono ?_
  rintro e w1 ⟨rfl, hb1⟩
  have HB1 : Hid (Below w.heap.size w w1) := below_step (below_alloc _) hb1
  obtain ⟨E, hE⟩ : ∃ E, E = checkAllE [p] := ⟨_, rfl⟩
  have HE : Hid (E = checkAllE [p]) := hE
  rw [← hE]
  clear hE hb1 H1
  by_cases hE0 : E = 0
  case neg =>
    have hb0 : (E != 0) = true := by rw [bne_iff_ne]; exact hE0
    have hc : compE p args = E := by unfold compE; rw [if_neg (by rw [← HE.out]; exact hE0)]; exact HE.out.symm
    have HC : Hid (compE p args = E ∧ compL p args = []) := ⟨hc, by unfold compL; rw [hc, if_neg hE0]⟩
    clear hc
    go_wp2
    go_ret2
    exact ⟨_, ret2i HC.out.1.symm, by rw [HC.out.2]; exact OM.nil _ _, HB1.out⟩
  subst hE0
  have HSp : Hid (DomM p) := small_of_check (checkAll1 HE.out.symm)
  go_wp2_with fail
  refine (checkAll_any _ args _ (HQ.out.kp (Kp.of_below HB1.out))).mono ?_
  rintro e w2 ⟨rfl, hb2⟩
  have HB2 : Hid (Below w.heap.size w w2) := below_step HB1.out hb2
  obtain ⟨F, hF⟩ : ∃ F, F = checkAllE args := ⟨_, rfl⟩
  have HF : Hid (F = checkAllE args) := hF
  rw [← hF]
  clear hF hb2
  by_cases hF0 : F = 0
  case neg =>
    have hb0 : (F != 0) = true := by rw [bne_iff_ne]; exact hF0
    have hc : compE p args = F := by unfold compE; rw [if_pos HE.out.symm, if_neg (by rw [← HF.out]; exact hF0)]; exact HF.out.symm
    have HC : Hid (compE p args = F ∧ compL p args = []) := ⟨hc, by unfold compL; rw [hc, if_neg hF0]⟩
    clear hc
    go_wp2
    go_ret2
    exact ⟨_, ret2i HC.out.1.symm, by rw [HC.out.2]; exact OM.nil _ _, HB2.out⟩
  subst hF0
  have HSa : Hid (∀ q ∈ args, DomM q) := checkAll_mem HF.out.symm
  go_wp2_with fail
  refine (variables_any _ p _ (HP.out.kp (Kp.of_below HB2.out))).mono ?_
  rintro e w3 ⟨rfl, hb3⟩
  have HB3 : Hid (Below w.heap.size w w3) := below_step HB2.out hb3
  obtain ⟨N, hN⟩ : ∃ N, N = varsN p := ⟨_, rfl⟩
  have HN : Hid (N = varsN p) := hN
  rw [← hN]
  clear hN hb3
  by_cases hNa : N ≤ args.length
  case neg =>
    have hc : compE p args = 21 := by unfold compE; rw [if_pos HE.out.symm, if_pos HF.out.symm, if_neg (by rw [← HN.out]; exact hNa)]
    have HC : Hid (compE p args = 21 ∧ compL p args = []) := ⟨hc, by unfold compL; rw [hc]; rfl⟩
    clear hc
    go_wp2
    go_ret2
    exact ⟨_, ret2i HC.out.1.symm, by rw [HC.out.2]; exact OM.nil _ _, HB3.out⟩
  have HCE : Hid (compE p args = (compGo args [] p).2) := by
    show _ = _
    unfold compE
    rw [if_pos HE.out.symm, if_pos HF.out.symm, if_pos (by rw [← HN.out]; exact hNa)]
  have hdec : decide (args.length < N) = false := decide_eq_false (by omega)
  go_wp2
  clear hmm
  have H0 : Hid (MapOk (w3.alloc (.map #[] 0)) w.heap.size w3.heap.size []) := MapOk.made w3 _
  have HB4 : Hid (Below w.heap.size w (w3.alloc (.map #[] 0))) := below_step HB3.out (below_alloc _)
  obtain ⟨G, hG⟩ : ∃ G, G = w3.heap.size := ⟨_, rfl⟩
  have hGw : w.heap.size ≤ G := by rw [hG]; exact HB3.out.size
  rw [← hG] at H0 ⊢
  clear hG
  go_loopw [32] (fun i wr => ∃ (k : Nat) (M : LkY), k ≤ p.length ∧ i = .int .i64 k ∧ compGo args [] p = compGo args M (p.drop k) ∧ M.length ≤ 256 ∧ MapOk wr w.heap.size G M ∧ Below w.heap.size w wr) (fun i _ => p.length - (intOf i).toNat)
  case atStart => exact ⟨0, [], by omega, rfl, rfl, by simp, H0.out, HB4.out⟩
  case round =>
    obtain ⟨k, M, hk, rfl, hpu, hM6, hmo, hbl⟩ := hrel
    have HPr : Hid (compGo args [] p = compGo args M (p.drop k)) := hpu
    have HMo : Hid (MapOk wr w.heap.size G M) := hmo
    have HBl : Hid (Below w.heap.size w wr) := hbl
    clear hpu hmo hbl H0 HB4
    by_cases hlt : k < p.length
    · obtain ⟨g, off, c, es, a1, c1, a2, c2, rfl, hm1, hc0, hc1, hmm, hl1, hl2, hl3, hl4⟩ := (HP.out.kp (Kp.of_below HBl.out)).at hlt
      have HX : Hid (p[k]? = some (c, es)) := hm1
      have HSm : Hid (Small es) := HSp.out k _ hm1
      have hle : es.length ≤ args.length := Nat.le_trans (varsN_ge hm1) (by rw [← HN.out]; exact hNa)
      have hbx := below_alloc (w := wr) (.cells #[.slice a1 c.length c1, .slice a2 es.length c2] 37)
      have hmm2 := hmm.kp (Kp.of_below hbx)
      have hone := ms_one hmm2.1
      rw [show (wr.alloc (.cells #[.slice a1 c.length c1, .slice a2 es.length c2] 37)).heap.size = wr.heap.size + 1 by simp] at hone
      have HOne : Hid (Ms ((wr.alloc (.cells #[.slice a1 c.length c1, .slice a2 es.length c2] 37)).alloc (.cells #[.slice a1 c.length c1, .slice none 0 0] 37)) (.slice (some ⟨wr.heap.size + 1, 0, none⟩) 1 1) [(c, [])]) := hone
      clear hone
      have hbx2 := below_alloc (w := wr.alloc (.cells #[.slice a1 c.length c1, .slice a2 es.length c2] 37)) (.cells #[.slice a1 c.length c1, .slice none 0 0] 37)
      have HEs : Hid (Is ((wr.alloc (.cells #[.slice a1 c.length c1, .slice a2 es.length c2] 37)).alloc (.cells #[.slice a1 c.length c1, .slice none 0 0] 37)) (.slice a2 es.length c2) es) := hmm2.2.kp (Kp.of_below hbx2)
      have HBx : Hid (Below wr.heap.size wr ((wr.alloc (.cells #[.slice a1 c.length c1, .slice a2 es.length c2] 37)).alloc (.cells #[.slice a1 c.length c1, .slice none 0 0] 37))) := below_step hbx hbx2
      clear hm1 hmm hmm2 hbx hbx2
      go_wp2_with fail
      refine (worthM_any 65 _ _ _ [(c, [])] es args _ timesM domM_prod HOne.out HEs.out ((HQ.out.kp (Kp.of_below HBl.out)).kp (Kp.of_below HBx.out)) (domM_one c) HSa.out HSm.out hle enterM).mono ?_
      rintro e w4 ⟨v4, rfl, ho4, hb4⟩
      obtain ⟨PW, hPW⟩ : ∃ PW, PW = worthV prodL prodE es args [(c, [])] := ⟨_, rfl⟩
      have HPW : Hid (PW = worthV prodL prodE es args [(c, [])]) := hPW
      rw [← hPW] at ho4 ⊢
      have HO4 : Hid (Ms w4 v4 PW.1) := ho4
      have hb04 := below_step HBx.out hb4
      have HM4 : Hid (MapOk w4 w.heap.size G M) := HMo.out.later hb04
      have HB4 : Hid (Below w.heap.size w w4) := below_step HBl.out hb04
      obtain ⟨E1, hE1⟩ : ∃ E1, E1 = PW.2 := ⟨_, rfl⟩
      have HE1 : Hid (E1 = PW.2) := hE1
      rw [← hE1]
      clear hPW hE1 ho4 hb4 hb04
      by_cases h1 : E1 = 0
      · subst h1
        have HDp : Hid (DomM PW.1) := by
          show DomM PW.1
          rw [HPW.out]
          unfold worthV
          split
          · exact domM_nil
          · rename_i hno
            refine D_worth domM_prod es args _ HSa.out (domM_one c) ?_
            have := HE1.out.symm
            rw [HPW.out] at this
            unfold worthV at this
            rw [if_neg hno] at this
            exact this
        go_wp2_with fail
        refine (putAll_any G w.heap.size M PW.1 _ _ HM4.out HO4.out HDp.out hM6 HB4.out.size).mono ?_
        rintro e w5 ⟨rfl, hm5, hg5⟩
        have HM5 : Hid (MapOk w5 w.heap.size G (puts M PW.1).1) := hm5
        have HB5 : Hid (Below w.heap.size w w5) := HB4.out.grown hg5 HB4.out.size (fun k hk => by cases hk; exact hGw)
        obtain ⟨E2, hE2⟩ : ∃ E2, E2 = (puts M PW.1).2 := ⟨_, rfl⟩
        have HE2 : Hid (E2 = (puts M PW.1).2) := hE2
        rw [← hE2]
        clear hE2 hm5 hg5
        by_cases h2 : E2 = 0
        · subst h2
          go_wp2
          go_roundw
          case rel =>
            refine ⟨k + 1, (puts M PW.1).1, by omega, by go_num, ?_, len_puts HE2.out.symm hM6, HM5.out, HB5.out⟩
            rw [HPr.out, drop_getY HX.out, compGo]
            simp only
            rw [← HPW.out, if_pos HE1.out.symm, if_pos HE2.out.symm]
          case measure => simp [intOf]; omega
        · have hb0 : (E2 != 0) = true := by rw [bne_iff_ne]; exact h2
          have hc : compE p args = E2 := by
            rw [HCE.out, HPr.out, drop_getY HX.out, compGo]
            simp only
            rw [← HPW.out, if_pos HE1.out.symm, if_neg (by rw [← HE2.out]; exact h2), ← HE2.out]
          have HC : Hid (compE p args = E2 ∧ compL p args = []) := ⟨hc, by unfold compL; rw [hc, if_neg h2]⟩
          clear hc
          go_wp2
          go_ret2
          exact ⟨_, ret2i HC.out.1.symm, by rw [HC.out.2]; exact OM.nil _ _, HB5.out⟩
      · have hb0 : (E1 != 0) = true := by rw [bne_iff_ne]; exact h1
        have hb1 : (E1 == 0) = false := by rw [beq_eq_false_iff_ne]; exact h1
        have hc : compE p args = E1 := by
          rw [HCE.out, HPr.out, drop_getY HX.out, compGo]
          simp only
          rw [← HPW.out, if_neg (by rw [← HE1.out]; exact h1), ← HE1.out]
        have HC : Hid (compE p args = E1 ∧ compL p args = []) := ⟨hc, by unfold compL; rw [hc, if_neg h1]⟩
        clear hc
        go_wp2
        go_ret2
        exact ⟨_, ret2i HC.out.1.symm, by rw [HC.out.2]; exact OM.nil _ _, HB4.out⟩
    · have hke : k = p.length := by omega
      subst hke
      have hfin : compGo args [] p = (M, 0) := by rw [HPr.out, List.drop_of_length_le (Nat.le_refl _)]; rfl
      have hc : compE p args = 0 := by rw [HCE.out, hfin]
      go_wp2_with fail
      refine (row_any G w.heap.size M _ HMo.out (by omega) HBl.out.size).mono ?_
      rintro e w6 ⟨v6, rfl, ho6, hb6⟩
      have HO6 : Hid (OM w6 w.heap.size v6 (compL p args)) := by
        show OM _ _ _ _
        unfold compL
        rw [if_pos hc, hfin]
        exact ho6
      have HC : Hid (compE p args = 0) := hc
      have HB6 : Hid (Below w.heap.size w w6) := below_step HBl.out hb6
      clear ho6 hb6 hfin hc
      go_wp2
      go_ret2
      exact ⟨_, ret2i HC.out.symm, HO6.out, HB6.out⟩

end Go.Proofs.YtdjmjhlbjcgoiaaGreatDoor

/- What Value answers. -/
namespace Go.Proofs.YtdjmjhlbjcgoiaaGreatDoor
open Go.RowKit Go.Maps

set_option maxRecDepth 100000 in
set_option maxHeartbeats 600000 in
theorem value_own (v av : Value) (p : List Mn) (ats : List (List Nat)) (w : World) (h : Ms w v p) (h' : RsY w av ats) :
    Calls Tryz.prog 30 #[v, av] w fun e w' => ∃ v', e = .returned (.tuple #[v', .int .i64 (valE p ats)]) ∧ Ow w' w.heap.size v' (valL p ats) ∧ Below w.heap.size w w' := by
  obtain ⟨ao, cap, rfl, hao, hca, q0⟩ := Row.flat h
  obtain ⟨bo, cap', rfl, hbo, hcb, q0'⟩ := Row.flat h'
  unfold maxLen at hca hcb
  have HP : Hid (Ms w (.slice ao p.length cap) p) := h
  have HQ : Hid (RsY w (.slice bo ats.length cap') ats) := h'
  have H1 : Hid _ := ps1 h
  clear h h' q0 q0'
  go_enter Tryz.func30, Tryz.ntmps30
  go_wp2_with fail
  refine (checkAll_any _ [p] _ H1.out).mono ?_
  rintro e w1 ⟨rfl, hb1⟩
  have HB1 : Hid (Below w.heap.size w w1) := below_step (below_alloc _) hb1
  obtain ⟨E, hE⟩ : ∃ E, E = checkAllE [p] := ⟨_, rfl⟩
  have HE : Hid (E = checkAllE [p]) := hE
  rw [← hE]
  clear hE hb1 H1
  by_cases hE0 : E = 0
  case neg =>
    have hb0 : (E != 0) = true := by rw [bne_iff_ne]; exact hE0
    have hc : valE p ats = E := by unfold valE; rw [if_neg (by rw [← HE.out]; exact hE0)]; exact HE.out.symm
    have HC : Hid (valE p ats = E ∧ valL p ats = []) := ⟨hc, by unfold valL; rw [hc, if_neg hE0]⟩
    clear hc
    go_wp2
    go_ret2
    exact ⟨_, ret2i HC.out.1.symm, by rw [HC.out.2]; exact Ow.nil _ _, HB1.out⟩
  subst hE0
  have HSp : Hid (DomM p) := small_of_check (checkAll1 HE.out.symm)
  go_wp2_with fail
  refine (variables_any _ p _ (HP.out.kp (Kp.of_below HB1.out))).mono ?_
  rintro e w3 ⟨rfl, hb3⟩
  have HB3 : Hid (Below w.heap.size w w3) := below_step HB1.out hb3
  obtain ⟨N, hN⟩ : ∃ N, N = varsN p := ⟨_, rfl⟩
  have HN : Hid (N = varsN p) := hN
  rw [← hN]
  clear hN hb3
  by_cases hNa : N ≤ ats.length
  case neg =>
    have hc : valE p ats = 21 := by unfold valE; rw [if_pos HE.out.symm, if_neg (by rw [← HN.out]; exact hNa)]
    have HC : Hid (valE p ats = 21 ∧ valL p ats = []) := ⟨hc, by unfold valL; rw [hc]; rfl⟩
    clear hc
    go_wp2
    go_ret2
    exact ⟨_, ret2i HC.out.1.symm, by rw [HC.out.2]; exact Ow.nil _ _, HB3.out⟩
  have hdec : decide (ats.length < N) = false := decide_eq_false (by omega)
  go_wp2
  go_loopw [27] (fun i wr => ∃ k : Nat, k ≤ ats.length ∧ i = .int .i64 k ∧ (∀ (j : Nat) (x : List Nat), j < k → ats[j]? = some x → rightB x = true) ∧ wr = w3) (fun i _ => ats.length - (intOf i).toNat)
  case atStart => exact ⟨0, by omega, rfl, fun j x hj => absurd hj (by omega), rfl⟩
  case round =>
    obtain ⟨k, hk, rfl, hp, hw⟩ := hrel
    have hw8 := hw.symm
    subst hw8
    clear hw
    have HPk : Hid (∀ (j : Nat) (x : List Nat), j < k → ats[j]? = some x → rightB x = true) := hp
    clear hp
    by_cases hlt : k < ats.length
    · obtain ⟨g2, off2, f, a1, c1, rfl, hy1, hy2, hy3, hy4, hy5⟩ := (HQ.out.kp (Kp.of_below HB3.out)).at hlt
      have HY : Hid (ats[k]? = some f) := hy1
      have HFr : Hid (Sl w3 (.slice a1 f.length c1) f) := hy3
      clear hy1 hy3
      go_wp2_with fail
      refine (right_any _ f _ HFr.out).mono ?_
      rintro e w9 ⟨rfl, hw9⟩
      have hw8 := hw9.symm
      subst hw8
      clear hw9
      cases hr : rightB f
      · have hc : valE p ats = 10 := by
          unfold valE
          rw [if_pos HE.out.symm, if_pos (by rw [← HN.out]; exact hNa), if_neg]
          rw [Bool.not_eq_true, List.all_eq_false]
          exact ⟨f, List.mem_of_getElem? HY.out, by rw [hr]; simp⟩
        have HC : Hid (valE p ats = 10 ∧ valL p ats = []) := ⟨hc, by unfold valL; rw [hc]; rfl⟩
        clear hc hr
        go_wp2
        go_ret2
        exact ⟨_, ret2i HC.out.1.symm, by rw [HC.out.2]; exact Ow.nil _ _, HB3.out⟩
      · have HR : Hid (rightB f = true) := hr
        clear hr
        go_wp2
        go_roundw
        case rel =>
          refine ⟨k + 1, by omega, by go_num, fun j x hj h1 => ?_, trivial⟩
          by_cases hjk : j = k
          · subst hjk; rw [HY.out] at h1; cases h1; exact HR.out
          · exact HPk.out j x (by omega) h1
        case measure => simp [intOf]; omega
    · have hke : k = ats.length := by omega
      subst hke
      have hall : ats.all rightB = true := by
        rw [List.all_eq_true]
        intro x hx
        obtain ⟨j, hj⟩ := List.mem_iff_getElem?.1 hx
        exact HPk.out j x (List.getElem?_eq_some_iff.1 hj).1 hj
      have HCE : Hid (valE p ats = (valGo ats [] p).2) := by
        show _ = _
        unfold valE
        rw [if_pos HE.out.symm, if_pos (by rw [← HN.out]; exact hNa), if_pos hall]
      clear hall HPk
      go_wp2
      go_loopw [9, 37] (fun x i wr => ∃ (k : Nat) (t : List Nat), k ≤ p.length ∧ i = .int .i64 k ∧ valGo ats [] p = valGo ats t (p.drop k) ∧ Ow wr w.heap.size x t ∧ Below w.heap.size w wr) (fun _ i _ => p.length - (intOf i).toNat)
      case atStart => exact ⟨0, [], by omega, rfl, rfl, Ow.nil _ _, HB3.out⟩
      case round =>
        obtain ⟨k, t, hk, rfl, hpu, hst, hbl⟩ := hrel
        have HPr : Hid (valGo ats [] p = valGo ats t (p.drop k)) := hpu
        have HSt : Hid (Ow wr w.heap.size u9 t) := hst
        have HBl : Hid (Below w.heap.size w wr) := hbl
        clear hpu hst hbl
        by_cases hlt : k < p.length
        · obtain ⟨g, off, c, es, a1, c1, a2, c2, rfl, hm1, hc0, hc1, hmm, hl1, hl2, hl3, hl4⟩ := (HP.out.kp (Kp.of_below HBl.out)).at hlt
          have HX : Hid (p[k]? = some (c, es)) := hm1
          have HSm : Hid (Small es) := HSp.out k _ hm1
          have hle : es.length ≤ ats.length := Nat.le_trans (varsN_ge hm1) (by rw [← HN.out]; exact hNa)
          have hbx := below_alloc (w := wr) (.cells #[.slice a1 c.length c1, .slice a2 es.length c2] 37)
          have HMm : Hid (Mo (wr.alloc (.cells #[.slice a1 c.length c1, .slice a2 es.length c2] 37)) (.slice a1 c.length c1) (.slice a2 es.length c2) (c, es)) := hmm.kp (Kp.of_below hbx)
          have HBx : Hid (Below wr.heap.size wr (wr.alloc (.cells #[.slice a1 c.length c1, .slice a2 es.length c2] 37))) := hbx
          clear hm1 hmm hbx
          go_wp2_with fail
          refine (worthN_any 70 _ _ _ c es ats _ timesN (fun _ _ _ _ _ => trivial) HMm.out.1 HMm.out.2 ((HQ.out.kp (Kp.of_below HBl.out)).kp (Kp.of_below HBx.out)) trivial (fun _ _ => trivial) HSm.out hle enterN).mono ?_
          rintro e w4 ⟨v4, rfl, ho4, hb4⟩
          obtain ⟨PW, hPW⟩ : ∃ PW, PW = worthV mulL mulE es ats c := ⟨_, rfl⟩
          have HPW : Hid (PW = worthV mulL mulE es ats c) := hPW
          rw [← hPW] at ho4 ⊢
          have HO4 : Hid (Sl w4 v4 PW.1) := ho4
          have hb04 := below_step HBx.out hb4
          have HSt4 : Hid (Sl w4 u9 t) := HSt.out.sl.kp (Kp.of_below hb04)
          have HB4 : Hid (Below w.heap.size w w4) := below_step HBl.out hb04
          obtain ⟨E1, hE1⟩ : ∃ E1, E1 = PW.2 := ⟨_, rfl⟩
          have HE1 : Hid (E1 = PW.2) := hE1
          rw [← hE1]
          clear hPW hE1 ho4 hb4 hb04
          by_cases h1 : E1 = 0
          · subst h1
            go_wp2_with fail
            refine (add_any _ _ t PW.1 _ HSt4.out HO4.out).mono ?_
            rintro e w5 ⟨v5, rfl, ho5, hb5⟩
            have HO5 : Hid (Ow w5 w.heap.size v5 (addL t PW.1)) := ho5.mono HB4.out.size
            have HB5 : Hid (Below w.heap.size w w5) := below_step HB4.out hb5
            obtain ⟨E2, hE2⟩ : ∃ E2, E2 = addE t PW.1 := ⟨_, rfl⟩
            have HE2 : Hid (E2 = addE t PW.1) := hE2
            rw [← hE2]
            clear hE2 ho5 hb5
            by_cases h2 : E2 = 0
            · subst h2
              go_wp2
              go_roundw
              case rel =>
                refine ⟨k + 1, addL t PW.1, by omega, by go_num, ?_, HO5.out, HB5.out⟩
                rw [HPr.out, drop_getY HX.out, valGo]
                simp only
                rw [← HPW.out, if_pos HE1.out.symm, if_pos HE2.out.symm]
              case measure => simp [intOf]; omega
            · have hb0 : (E2 != 0) = true := by rw [bne_iff_ne]; exact h2
              have hc : valE p ats = E2 := by
                rw [HCE.out, HPr.out, drop_getY HX.out, valGo]
                simp only
                rw [← HPW.out, if_pos HE1.out.symm, if_neg (by rw [← HE2.out]; exact h2), ← HE2.out]
              have HC : Hid (valE p ats = E2 ∧ valL p ats = []) := ⟨hc, by unfold valL; rw [hc, if_neg h2]⟩
              clear hc
              go_wp2
              go_ret2
              exact ⟨_, ret2i HC.out.1.symm, by rw [HC.out.2]; exact Ow.nil _ _, HB5.out⟩
          · have hb0 : (E1 != 0) = true := by rw [bne_iff_ne]; exact h1
            have hb1 : (E1 == 0) = false := by rw [beq_eq_false_iff_ne]; exact h1
            have hc : valE p ats = E1 := by
              rw [HCE.out, HPr.out, drop_getY HX.out, valGo]
              simp only
              rw [← HPW.out, if_neg (by rw [← HE1.out]; exact h1), ← HE1.out]
            have HC : Hid (valE p ats = E1 ∧ valL p ats = []) := ⟨hc, by unfold valL; rw [hc, if_neg h1]⟩
            clear hc
            go_wp2
            go_ret2
            exact ⟨_, ret2i HC.out.1.symm, by rw [HC.out.2]; exact Ow.nil _ _, HB4.out⟩
        · have hke : k = p.length := by omega
          subst hke
          have hfin : valGo ats [] p = (t, 0) := by rw [HPr.out, List.drop_of_length_le (Nat.le_refl _)]; rfl
          have hc : valE p ats = 0 := by rw [HCE.out, hfin]
          have HO6 : Hid (Ow wr w.heap.size u9 (valL p ats)) := by
            show Ow _ _ _ _
            unfold valL
            rw [if_pos hc, hfin]
            exact HSt.out
          have HC : Hid (valE p ats = 0) := hc
          clear hfin hc
          go_wp2
          go_ret2
          exact ⟨_, ret2i HC.out.symm, HO6.out, HBl.out⟩

theorem value_any (v av : Value) (p : List Mn) (ats : List (List Nat)) (w : World) (h : Ms w v p) (h' : RsY w av ats) :
    Calls Tryz.prog 30 #[v, av] w fun e w' => ∃ v', e = .returned (.tuple #[v', .int .i64 (valE p ats)]) ∧ Sl w' v' (valL p ats) ∧ Below w.heap.size w w' :=
  (value_own v av p ats w h h').mono fun _ _ ⟨v', he, ho, hb⟩ => ⟨v', he, ho.sl, hb⟩

/-- The constant. -/
def constL (p : List Mn) : List Nat := match p with | [] => [] | m :: _ => if m.2.length = 0 then m.1 else []

set_option maxRecDepth 100000 in
theorem constant_any (v : Value) (p : List Mn) (w : World) (h : Ms w v p) :
    Calls Tryz.prog 104 #[v] w fun e w' => ∃ v', e = .returned v' ∧ Sl w' v' (constL p) ∧ w' = w := by
  obtain ⟨ao, cap, rfl, hao, hca, q0⟩ := Row.flat h
  unfold maxLen at hca
  have HM : Hid (Ms w (.slice ao p.length cap) p) := h
  clear h q0
  by_cases h0 : p.length = 0
  · obtain rfl : p = [] := List.eq_nil_of_length_eq_zero h0
    rw [List.length_nil]
    clear h0
    go_enter Tryz.func104, Tryz.ntmps104
    go_wp2
    go_ret
    exact ⟨_, rfl, Sl.nil _, rfl⟩
  · obtain ⟨g, off, c, es, a1, c1, a2, c2, rfl, hm1, hc0, hc1, hmo, hl1, hl2, hl3, hl4⟩ := HM.out.at (k := 0) (by omega)
    have hb0 : ((p.length : Int) == 0) = false := by rw [beq_eq_false_iff_ne]; omega
    have hpos : 0 < p.length := by omega
    have HS : Hid (Sl w (.slice a1 c.length c1) c) := hmo.1
    have HC : Hid (constL p = if es.length = 0 then c else []) := by
      show _ = _
      cases p with
      | nil => simp at hpos
      | cons m r => simp at hm1; subst hm1; rfl
    rw [Nat.zero_mul, Nat.add_zero] at hc0 hc1
    clear hm1 hmo
    by_cases he : es.length = 0
    · have HC' : Hid (constL p = c) := HC.out.trans (if_pos he)
      have hge : decide (0 < es.length) = false := decide_eq_false (by omega)
      have hge2 : ¬ (0 < es.length) := by omega
      clear he
      go_enter Tryz.func104, Tryz.ntmps104
      go_wp2
      go_ret
      exact ⟨_, rfl, by rw [HC'.out]; exact HS.out, rfl⟩
    · have HC' : Hid (constL p = []) := HC.out.trans (if_neg he)
      have hge : 0 < es.length := by omega
      go_enter Tryz.func104, Tryz.ntmps104
      go_wp2
      go_ret
      exact ⟨_, rfl, by rw [HC'.out]; exact Sl.nil _, rfl⟩

end Go.Proofs.YtdjmjhlbjcgoiaaGreatDoor
