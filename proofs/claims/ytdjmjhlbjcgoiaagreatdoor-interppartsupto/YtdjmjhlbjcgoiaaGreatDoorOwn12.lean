/- Texts of the proof, one behind the other. -/
import Derived.Test.YtdjmjhlbjcgoiaaGreatDoorOwn11
/- A coefficient times the powers of factors. -/
namespace Go.Proofs.YtdjmjhlbjcgoiaaGreatDoor
open Go.RowKit Go.Maps

/-- Whether a factor with a power is nought. -/
def noughtB {β : Type} (es : List Int) (fs : List (List β)) : Bool := (List.zip es fs).any (fun p => decide (0 < p.1) && p.2.length == 0)

/-- The coefficient times the powers, one after the other. -/
def worthGo {β : Type} (tL : List β → List β → List β) (tE : List β → List β → Int) : List Int → List (List β) → List β → List β × Int
  | [], _, c => (c, 0)
  | _ :: _, [], c => (c, 0)
  | n :: es, f :: fs, c =>
    if n = 0 then worthGo tL tE es fs c
    else if (powGo tL tE [] f n.toNat (Lib.bitLen n.toNat - 1) f).2 = 0 then
      if tE c (powGo tL tE [] f n.toNat (Lib.bitLen n.toNat - 1) f).1 = 0 then worthGo tL tE es fs (tL c (powGo tL tE [] f n.toNat (Lib.bitLen n.toNat - 1) f).1)
      else ([], tE c (powGo tL tE [] f n.toNat (Lib.bitLen n.toNat - 1) f).1)
    else ([], (powGo tL tE [] f n.toNat (Lib.bitLen n.toNat - 1) f).2)

def worthV {β : Type} (tL : List β → List β → List β) (tE : List β → List β → Int) (es : List Int) (fs : List (List β)) (c : List β) : List β × Int :=
  if noughtB es fs then ([], 0) else worthGo tL tE es fs c

theorem D_pow {α : Type} {tL : α → α → α} {tE : α → α → Int} {D : α → Prop} {nil a : α} {n : Nat} (hD : ∀ x y, D x → D y → tE x y = 0 → D (tL x y)) (ha : D a) : ∀ (b : Nat) (out : α), D out → (powGo tL tE nil a n b out).2 = 0 → D (powGo tL tE nil a n b out).1
  | 0, out, ho, _ => ho
  | b + 1, out, ho, h => by
    unfold powGo at h ⊢
    split at h
    · rename_i h0
      rw [if_pos h0]
      split at h
      · rename_i h1
        rw [if_pos h1]
        split at h
        · rename_i h2
          rw [if_pos h2]
          exact D_pow hD ha b _ (hD _ _ (hD _ _ ho ho h0) ha h2) h
        · rename_i h2
          exact absurd h h2
      · rename_i h1
        rw [if_neg h1]
        exact D_pow hD ha b _ (hD _ _ ho ho h0) h
    · rename_i h0
      exact absurd h h0

theorem nought_at {β : Type} {es : List Int} {fs : List (List β)} {k : Nat} {n : Int} {f : List β} (h : es[k]? = some n) (h' : fs[k]? = some f) (hn : 0 < n) (hf : f.length = 0) : noughtB es fs = true := by
  unfold noughtB
  rw [List.any_eq_true]
  refine ⟨(n, f), List.mem_of_getElem? (i := k) ?_, by simp [hn, hf]⟩
  rw [List.getElem?_zip_eq_some]
  exact ⟨h, h'⟩

theorem nought_no {β : Type} {es : List Int} {fs : List (List β)} (h : ∀ (k : Nat) (n : Int) (f : List β), es[k]? = some n → fs[k]? = some f → 0 < n → ¬ f.length = 0) : noughtB es fs = false := by
  unfold noughtB
  rw [List.any_eq_false]
  intro p hp
  obtain ⟨k, hk⟩ := List.mem_iff_getElem?.1 hp
  rw [List.getElem?_zip_eq_some] at hk
  have := h k p.1 p.2 hk.1 hk.2
  simp
  intro h0 hnil
  exact this h0 (by rw [hnil]; rfl)

theorem worthGo_at {β : Type} {tL : List β → List β → List β} {tE : List β → List β → Int} {es : List Int} {fs : List (List β)} {k : Nat} {n : Int} {f c : List β} (h : es[k]? = some n) (h' : fs[k]? = some f) :
    worthGo tL tE (es.drop k) (fs.drop k) c = worthGo tL tE (n :: es.drop (k + 1)) (f :: fs.drop (k + 1)) c := by rw [drop_getY h, drop_getY h']

section

variable {tL : List Nat → List Nat → List Nat} {tE : List Nat → List Nat → Int} {D : List Nat → Prop}

end

section

variable {tL : List Mn → List Mn → List Mn} {tE : List Mn → List Mn → Int} {D : List Mn → Prop}

set_option maxRecDepth 100000 in
set_option maxHeartbeats 1600000 in
theorem worthM_any (g : FuncId) (v ev fv : Value) (c0 : List Mn) (es : List Int) (fs : List (List Mn)) (w : World) (ht : Times Ms D tL tE g) (hD : ∀ x y, D x → D y → tE x y = 0 → D (tL x y)) (h : Ms w v c0) (he : Is w ev es) (hf : Ps w fv fs) (hdc : D c0) (hdf : ∀ f ∈ fs, D f)
    (hs : Small es) (hlen : es.length ≤ fs.length) (eg : ∀ args w, (callFunc g args).run Tryz.prog w = .ok (.enter g args) w) :
    Calls Tryz.prog 64 #[v, ev, fv, .func (.func g) #[] #[]] w fun e w' => ∃ v', e = .returned (.tuple #[v', .int .i64 (worthV tL tE es fs c0).2]) ∧ Ms w' v' (worthV tL tE es fs c0).1 ∧ Below w.heap.size w w' := by
  obtain ⟨ao, cap, rfl, hao, hca, q0⟩ := Row.flat he
  obtain ⟨bo, cap', rfl, hbo, hcb, q0'⟩ := Row.flat hf
  unfold maxLen at hca hcb
  have HT : Hid (Times Ms D tL tE g) := ht
  have HD : Hid (∀ x y, D x → D y → tE x y = 0 → D (tL x y)) := hD
  have HC : Hid (Ms w v c0) := h
  have HI : Hid (Is w (.slice ao es.length cap) es) := he
  have HF : Hid (Ps w (.slice bo fs.length cap') fs) := hf
  have HDc : Hid (D c0) := hdc
  have HDf : Hid (∀ f ∈ fs, D f) := hdf
  have HS : Hid (Small es) := hs
  clear ht hD h he hf hdc hdf hs q0 q0'
  go_enter Tryz.func64, Tryz.ntmps64
  go_wp2
  go_loopw [18] (fun i wr => ∃ k : Nat, k ≤ es.length ∧ i = .int .i64 k ∧ (∀ (j : Nat) (n : Int) (f : List Mn), j < k → es[j]? = some n → fs[j]? = some f → 0 < n → ¬ f.length = 0) ∧ wr = w) (fun i _ => es.length - (intOf i).toNat)
  case atStart => exact ⟨0, by omega, rfl, fun j n f hj => absurd hj (by omega), rfl⟩
  case round =>
    obtain ⟨k, hk, rfl, hp, hw⟩ := hrel
    have hw8 := hw.symm
    subst hw8
    clear hw
    have HP : Hid (∀ (j : Nat) (n : Int) (f : List Mn), j < k → es[j]? = some n → fs[j]? = some f → 0 < n → ¬ f.length = 0) := hp
    clear hp
    by_cases hlt : k < es.length
    · obtain ⟨g1, off1, n, rfl, hx1, hx2, hx3, hx4⟩ := HI.out.at hlt
      obtain ⟨g2, off2, f, a1, c1, rfl, hy1, hy2, hy3, hy4, hy5⟩ := HF.out.at (show k < fs.length by omega)
      have HX : Hid (es[k]? = some n) := hx1
      have HY : Hid (fs[k]? = some f) := hy1
      have hkf : k < fs.length := by omega
      clear hx1 hy1 hy3
      by_cases hn : 0 < n
      · by_cases hf0 : f.length = 0
        · have hfb : ((f.length : Int) == 0) = true := by rw [beq_iff_eq]; omega
          have HN : Hid (worthV tL tE es fs c0 = ([], 0)) := by
            show _ = _
            unfold worthV
            rw [if_pos (nought_at HX.out HY.out hn hf0)]
          clear hf0
          go_wp2
          go_ret2
          exact ⟨_, ret2i (by rw [HN.out]), by rw [HN.out]; exact Ms.nil _, Below.refl _ _⟩
        · have hfb : ((f.length : Int) == 0) = false := by rw [beq_eq_false_iff_ne]; omega
          go_wp2
          go_roundw
          case rel =>
            refine ⟨k + 1, by omega, by go_num, fun j m q hj h1 h2 h3 => ?_, trivial⟩
            by_cases hjk : j = k
            · subst hjk; rw [HY.out] at h2; cases h2; exact hf0
            · exact HP.out j m q (by omega) h1 h2 h3
          case measure => simp [intOf]; omega
      · go_wp2
        go_roundw
        case rel =>
          refine ⟨k + 1, by omega, by go_num, fun j m q hj h1 h2 h3 => ?_, trivial⟩
          by_cases hjk : j = k
          · subst hjk; rw [HX.out] at h1; cases h1; exact absurd h3 hn
          · exact HP.out j m q (by omega) h1 h2 h3
        case measure => simp [intOf]; omega
    · have hke : k = es.length := by omega
      subst hke
      have hno : noughtB es fs = false := nought_no (fun j n f h1 h2 h3 => HP.out j n f (List.getElem?_eq_some_iff.1 h1).1 h1 h2 h3)
      have HV : Hid (worthV tL tE es fs c0 = worthGo tL tE es fs c0) := by
        show _ = _
        unfold worthV
        rw [hno]
        rfl
      clear hno HP
      go_wp2
      go_loopw [0, 36] (fun x i wr => ∃ (l : Nat) (c : List Mn), l ≤ es.length ∧ i = .int .i64 l ∧ Ms wr x c ∧ D c ∧ worthGo tL tE es fs c0 = worthGo tL tE (es.drop l) (fs.drop l) c ∧ Below w.heap.size w wr) (fun _ i _ => es.length - (intOf i).toNat)
      case atStart => exact ⟨0, c0, by omega, rfl, HC.out, HDc.out, rfl, Below.refl _ _⟩
      case round =>
        obtain ⟨l, c, hl, rfl, hrc, hdc, hwg, hbl⟩ := hrel
        have HRc : Hid (Ms wr u0 c) := hrc
        have HDC : Hid (D c) := hdc
        have HW : Hid (worthGo tL tE es fs c0 = worthGo tL tE (es.drop l) (fs.drop l) c) := hwg
        have HBl : Hid (Below w.heap.size w wr) := hbl
        clear hrc hdc hwg hbl
        by_cases hll : l < es.length
        · obtain ⟨g1, off1, n, rfl, hx1, hx2, hx3, hx4⟩ := (HI.out.kp (Kp.of_below HBl.out)).at hll
          obtain ⟨g2, off2, f, a1, c1, rfl, hy1, hy2, hy3, hy4, hy5⟩ := (HF.out.kp (Kp.of_below HBl.out)).at (show l < fs.length by omega)
          have HX : Hid (es[l]? = some n) := hx1
          have HY : Hid (fs[l]? = some f) := hy1
          have HFr : Hid (Ms wr (.slice a1 f.length c1) f) := hy3
          have hn64 := HS.out.2 l n hx1
          have hlf : l < fs.length := by omega
          have HDF : Hid (D f) := HDf.out f (List.mem_of_getElem? hy1)
          clear hx1 hy1 hy3
          by_cases hn0 : n = 0
          · subst hn0
            go_wp2
            go_roundw
            case rel =>
              refine ⟨l + 1, c, by omega, by go_num, HRc.out, HDC.out, ?_, HBl.out⟩
              rw [HW.out, worthGo_at HX.out HY.out, worthGo, if_pos rfl]
            case measure => simp [intOf]; omega
          · obtain ⟨N, rfl⟩ := Int.eq_ofNat_of_zero_le hn64.1
            have hnb : ((N : Int) == 0) = false := by rw [beq_eq_false_iff_ne]; exact hn0
            have HN0 : Hid (¬ (N : Int) = 0) := hn0
            have hN1 : 1 ≤ N := by omega
            clear hn0
            go_wp2_with fail
            refine (powerM_any g _ f N _ HT.out HD.out HFr.out HDF.out hN1 (by omega) eg).mono ?_
            rintro e w1 ⟨v1, rfl, ho1, hb1⟩
            obtain ⟨PW, hPW⟩ : ∃ PW, PW = powGo tL tE [] f N (Lib.bitLen N - 1) f := ⟨_, rfl⟩
            rw [← hPW] at ho1 ⊢
            have HPW : Hid (PW = powGo tL tE [] f N (Lib.bitLen N - 1) f) := hPW
            have HO1 : Hid (Ms w1 v1 PW.1) := ho1
            have HB1 : Hid (Below w.heap.size w w1) := below_step HBl.out hb1
            have HRc1 : Hid (Ms w1 u0 c) := HRc.out.kp (Kp.of_below hb1)
            obtain ⟨E, hE⟩ : ∃ E, E = PW.2 := ⟨_, rfl⟩
            rw [← hE]
            have HE : Hid (E = PW.2) := hE
            clear hPW hE ho1 hb1
            by_cases hE0 : E = 0
            · subst hE0
              have HDP : Hid (D PW.1) := by
                show D PW.1
                rw [HPW.out]
                exact D_pow HD.out HDF.out _ _ HDF.out (by rw [← HPW.out]; exact HE.out.symm)
              go_wp2_with fail
              refine (HT.out u0 v1 c PW.1 _ HRc1.out HO1.out HDC.out HDP.out).mono ?_
              rintro e w2 ⟨v2, rfl, ho2, hb2⟩
              have HO2 : Hid (Ms w2 v2 (tL c PW.1)) := ho2
              have HB2 : Hid (Below w.heap.size w w2) := below_step HB1.out hb2
              obtain ⟨F, hF⟩ : ∃ F, F = tE c PW.1 := ⟨_, rfl⟩
              rw [← hF]
              have HFF : Hid (F = tE c PW.1) := hF
              clear hF ho2 hb2
              by_cases hF0 : F = 0
              · subst hF0
                have HDn : Hid (D (tL c PW.1)) := HD.out _ _ HDC.out HDP.out HFF.out.symm
                go_wp2
                go_roundw
                case rel =>
                  refine ⟨l + 1, tL c PW.1, by omega, by go_num, HO2.out, HDn.out, ?_, HB2.out⟩
                  rw [HW.out, worthGo_at HX.out HY.out, worthGo, if_neg HN0.out]
                  simp only [Int.toNat_natCast]
                  rw [← HPW.out, if_pos HE.out.symm, if_pos HFF.out.symm]
                case measure => simp [intOf]; omega
              · have hb0 : (F != 0) = true := by rw [bne_iff_ne]; exact hF0
                have HFi : Hid (worthV tL tE es fs c0 = ([], F)) := by
                  show _ = _
                  rw [HV.out, HW.out, worthGo_at HX.out HY.out, worthGo, if_neg HN0.out]
                  simp only [Int.toNat_natCast]
                  rw [← HPW.out, if_pos HE.out.symm, if_neg (by rw [← HFF.out]; exact hF0), ← HFF.out]
                go_wp2
                go_ret2
                exact ⟨_, ret2i (by rw [HFi.out]), by rw [HFi.out]; exact Ms.nil _, HB2.out⟩
            · have hb0 : (E != 0) = true := by rw [bne_iff_ne]; exact hE0
              have hb1 : (E == 0) = false := by rw [beq_eq_false_iff_ne]; exact hE0
              have HFi : Hid (worthV tL tE es fs c0 = ([], E)) := by
                show _ = _
                rw [HV.out, HW.out, worthGo_at HX.out HY.out, worthGo, if_neg HN0.out]
                simp only [Int.toNat_natCast]
                rw [← HPW.out, if_neg (by rw [← HE.out]; exact hE0), ← HE.out]
              go_wp2
              go_ret2
              exact ⟨_, ret2i (by rw [HFi.out]), by rw [HFi.out]; exact Ms.nil _, HB1.out⟩
        · have hle : l = es.length := by omega
          subst hle
          have HFi : Hid (worthV tL tE es fs c0 = (c, 0)) := by
            show _ = _
            rw [HV.out, HW.out, List.drop_of_length_le (Nat.le_refl _)]
            rfl
          go_wp2
          go_ret2
          exact ⟨_, ret2i (by rw [HFi.out]), by rw [HFi.out]; exact HRc.out, HBl.out⟩

end

end Go.Proofs.YtdjmjhlbjcgoiaaGreatDoor

/- What Compose and Value answer. -/
namespace Go.Proofs.YtdjmjhlbjcgoiaaGreatDoor
open Go.RowKit Go.Maps

def DomM (p : List Mn) : Prop := ∀ (k : Nat) (m : Mn), p[k]? = some m → Small m.2

def KeysLe (L : LkY) : Prop := ∀ p ∈ L, p.1.length = 512 ∧ ∀ x ∈ p.1, x ≤ 64

theorem mem_insK' {L : LkY} {k c : List Nat} {q : List Nat × List Nat} (h : q ∈ insK L k c) : q = (k, c) ∨ q ∈ L := by
  induction L with
  | nil => simp [insK] at h; exact .inl h
  | cons p r ih =>
    unfold insK at h
    split at h
    · rcases List.mem_cons.1 h with h | h
      · exact .inl h
      · exact .inr (by simp [h])
    · split at h
      · rcases List.mem_cons.1 h with h | h
        · exact .inl h
        · exact .inr h
      · rcases List.mem_cons.1 h with h | h
        · exact .inr (by simp [h])
        · rcases ih h with h | h
          · exact .inl h
          · exact .inr (by simp [h])

theorem keysLe_putL {L : LkY} {k c : List Nat} (h : KeysLe L) (hk : k.length = 512 ∧ ∀ x ∈ k, x ≤ 64) : KeysLe (putL L k c) := by
  unfold putL
  split
  · intro q hq
    rcases mem_insK' hq with rfl | hq
    · exact hk
    · exact h q hq
  · exact h

theorem raised_le {ks : List Nat} {es : List Int} (hk : ks.length = 512) (hs : Small es) (h0 : raisedE ks es = 0) : (raisedK ks es).length = 512 ∧ ∀ x ∈ raisedK ks es, x ≤ 64 := by
  refine ⟨len_raised hk hs, ?_⟩
  have ha : (addK ks (keyX es)).all (fun n => decide (n ≤ 64)) = true := by
    unfold raisedE at h0
    split at h0
    · assumption
    · omega
  unfold raisedK
  rw [if_pos ha]
  rw [List.all_eq_true] at ha
  intro x hx
  simpa using ha x hx

theorem keysLe_prodIn {m : Mn} (hm : Small m.2) {q : List Mn} : DomM q → ∀ {L : LkY}, KeysLe L → KeysLe (prodIn m L q).1 := by
  induction q with
  | nil => intro _ L h; exact h
  | cons n r ih =>
    intro hq L h
    have hn : Small n.2 := hq 0 n rfl
    have hr : DomM r := fun k m hk => hq (k + 1) m hk
    unfold prodIn
    split
    · rename_i h0
      have hk := keysLe_putL (c := mulL m.1 n.1) h (raised_le (keyX_len hm.1) hn h0)
      split
      · split
        · exact ih hr hk
        · exact hk
      · exact h
    · exact h

theorem keysLe_prods {q : List Mn} (hq : DomM q) {p : List Mn} : DomM p → ∀ {L : LkY}, KeysLe L → KeysLe (prods q L p).1 := by
  induction p with
  | nil => intro _ L h; exact h
  | cons m r ih =>
    intro hp L h
    have hm : Small m.2 := hp 0 m rfl
    have hr : DomM r := fun k m hk => hp (k + 1) m hk
    unfold prods
    split
    · exact ih hr (keysLe_prodIn hm hq h)
    · exact keysLe_prodIn hm hq h

theorem small_unX {ks : List Nat} (h : ks.length = 512 ∧ ∀ x ∈ ks, x ≤ 64) : Small (unX ks) := by
  refine ⟨by unfold unX; simp; omega, fun k x hk => ?_⟩
  unfold unX at hk
  rw [List.getElem?_map] at hk
  cases hy : (ks.take (topK ks))[k]? with
  | none => rw [hy] at hk; cases hk
  | some y =>
    rw [hy] at hk
    have hy2 := h.2 y (List.mem_of_mem_take (List.mem_of_getElem? hy))
    simp at hk
    omega

theorem domM_row {L : LkY} (h : KeysLe L) : DomM (rowLY L) := by
  intro k m hk
  unfold rowLY at hk
  rw [List.getElem?_map] at hk
  cases hp : L[k]? with
  | none => rw [hp] at hk; cases hk
  | some p =>
    rw [hp] at hk
    simp at hk
    subst hk
    exact small_unX (h p (List.mem_of_getElem? hp))

theorem domM_nil : DomM [] := fun k m h => by simp at h

theorem domM_prod (p q : List Mn) (hp : DomM p) (hq : DomM q) (h0 : prodE p q = 0) : DomM (prodL p q) := by
  unfold prodL
  rw [if_pos h0]
  exact domM_row (keysLe_prods hq hp (fun p h => by cases h))

theorem timesM : Times Ms DomM prodL prodE 65 := fun v u a b w h h' ha hb =>
  (pprod_any v u a b w h h' ha hb).mono fun _ _ ⟨v', he, ho, hbl⟩ => ⟨v', he, ho.ms, hbl⟩

theorem enterM : ∀ args w, (callFunc 65 args).run Tryz.prog w = .ok (.enter 65 args) w := enters_of Tryz.func65 (by kernel_rfl) rfl

theorem D_worth {β : Type} {tL : List β → List β → List β} {tE : List β → List β → Int} {D : List β → Prop} (hD : ∀ x y, D x → D y → tE x y = 0 → D (tL x y)) : ∀ (es : List Int) (fs : List (List β)) (c : List β), (∀ f ∈ fs, D f) → D c → (worthGo tL tE es fs c).2 = 0 → D (worthGo tL tE es fs c).1
  | [], _, c, _, hc, _ => by unfold worthGo; exact hc
  | _ :: _, [], c, _, hc, _ => by unfold worthGo; exact hc
  | n :: es, f :: fs, c, hf, hc, h => by
    unfold worthGo at h ⊢
    split at h
    · rename_i h0
      rw [if_pos h0]
      exact D_worth hD es fs c (fun x hx => hf x (by simp [hx])) hc h
    · rename_i h0
      rw [if_neg h0]
      split at h
      · rename_i h1
        rw [if_pos h1]
        split at h
        · rename_i h2
          rw [if_pos h2]
          have hff := hf f (by simp)
          exact D_worth hD es fs _ (fun x hx => hf x (by simp [hx])) (hD _ _ hc (D_pow hD hff _ _ hff h1) h2) h
        · rename_i h2
          exact absurd h h2
      · rename_i h1
        exact absurd h h1

/-- Compose, monomial by monomial. -/
def compGo (args : List (List Mn)) : LkY → List Mn → LkY × Int
  | L, [] => (L, 0)
  | L, m :: r =>
    if (worthV prodL prodE m.2 args [(m.1, [])]).2 = 0 then
      if (puts L (worthV prodL prodE m.2 args [(m.1, [])]).1).2 = 0 then compGo args (puts L (worthV prodL prodE m.2 args [(m.1, [])]).1).1 r
      else puts L (worthV prodL prodE m.2 args [(m.1, [])]).1
    else (L, (worthV prodL prodE m.2 args [(m.1, [])]).2)

def compE (p : List Mn) (args : List (List Mn)) : Int :=
  if checkAllE [p] = 0 then if checkAllE args = 0 then if varsN p ≤ args.length then (compGo args [] p).2 else 21 else checkAllE args else checkAllE [p]

def compL (p : List Mn) (args : List (List Mn)) : List Mn := if compE p args = 0 then rowLY (compGo args [] p).1 else []

theorem checkAll1 {p : List Mn} (h : checkAllE [p] = 0) : checkE p 9223372036854775807 = 0 := by
  unfold checkAllE at h
  split at h
  · assumption
  · rename_i h1
    exact absurd h h1

theorem checkAll_mem : ∀ {ps : List (List Mn)}, checkAllE ps = 0 → ∀ p ∈ ps, DomM p
  | [], _, p, hp => by cases hp
  | q :: r, h, p, hp => by
    unfold checkAllE at h
    split at h
    · rename_i h1
      rcases List.mem_cons.1 hp with rfl | hp
      · exact small_of_check h1
      · exact checkAll_mem h p hp
    · rename_i h1
      exact absurd h h1

theorem varsN_ge {p : List Mn} : ∀ {k : Nat} {m : Mn}, p[k]? = some m → m.2.length ≤ varsN p := by
  intro k m hk
  have h1 := varsN_step hk
  have h2 : ∀ (l : List Mn) (a : Nat), a ≤ l.foldl (fun a m => max a m.2.length) a := by
    intro l
    induction l with
    | nil => intro a; simp
    | cons x r ih => intro a; simp only [List.foldl_cons]; exact Nat.le_trans (by omega) (ih _)
  have h3 : varsN (p.take (k + 1)) ≤ varsN p := by
    conv => rhs; rw [← List.take_append_drop (k + 1) p]
    unfold varsN
    rw [List.foldl_append]
    exact h2 _ _
  omega

end Go.Proofs.YtdjmjhlbjcgoiaaGreatDoor

/- What Compose and Value answer: the walks. -/
namespace Go.Proofs.YtdjmjhlbjcgoiaaGreatDoor
open Go.RowKit Go.Maps

theorem ms_one {w : World} {cv : Value} {c : List Nat} (h : Sl w cv c) : Ms (w.alloc (.cells #[cv, .slice none 0 0] 37)) (.slice (some ⟨w.heap.size, 0, none⟩) 1 1) [(c, [])] := by
  have hk := Kp.of_below (below_alloc (w := w) (.cells #[cv, .slice none 0 0] 37))
  refine ⟨_, 1, rfl, by simp, by simp [maxLen], fun _ => ⟨w.heap.size, 0, rfl, by simp, ?_⟩⟩
  intro k x hk2
  have hlt := (List.getElem?_eq_some_iff.1 hk2).1
  match k, hlt with
  | 0, _ =>
    simp only [List.getElem?_cons_zero, Option.some.injEq] at hk2
    subst hk2
    exact ⟨cv, .slice none 0 0, by simp, by simp, h.kp hk, Row.nil (by simp [maxLen])⟩

theorem domM_one (c : List Nat) : DomM [(c, [])] := by
  intro k m hk
  have hlt := (List.getElem?_eq_some_iff.1 hk).1
  match k, hlt with
  | 0, _ =>
    simp only [List.getElem?_cons_zero, Option.some.injEq] at hk
    subst hk
    exact ⟨by simp, fun j x hj => by simp at hj⟩

set_option maxRecDepth 100000 in
set_option maxHeartbeats 600000 in
theorem compose_any (v av : Value) (p : List Mn) (args : List (List Mn)) (w : World) (h : Ms w v p) (h' : Ps w av args) :
    Calls Tryz.prog 26 #[v, av] w fun e w' => ∃ v', e = .returned (.tuple #[v', .int .i64 (compE p args)]) ∧ OM w' w.heap.size v' (compL p args) ∧ Below w.heap.size w w' := by
  obtain ⟨ao, cap, rfl, hao, hca, q0⟩ := Row.flat h
  obtain ⟨bo, cap', rfl, hbo, hcb, q0'⟩ := Row.flat h'
  unfold maxLen at hca hcb
  have HP : Hid (Ms w (.slice ao p.length cap) p) := h
  have HQ : Hid (Ps w (.slice bo args.length cap') args) := h'
  have H1 : Hid _ := ps1 h
  have hmm := @run_makeMap Tryz.prog
  clear h h' q0 q0'
  go_enter Tryz.func26, Tryz.ntmps26
  go_wp2_with fail
  refine (checkAll_any _ [p] _ H1.out).mono ?_
  rintro e w1 ⟨rfl, hb1⟩
  have HB1 : Hid (Below w.heap.size w w1) := below_step (below_alloc _) hb1
  obtain ⟨E, hE⟩ : ∃ E, E = checkAllE [p] := ⟨_, rfl⟩
  have HE : Hid (E = checkAllE [p]) := hE
  rw [← hE]
  clear hE hb1 H1
  by_cases hE0 : E = 0
  case neg =>
    have hb0 : (E != 0) = true := by rw [bne_iff_ne]; exact hE0
    have hc : compE p args = E := by unfold compE; rw [if_neg (by rw [← HE.out]; exact hE0)]; exact HE.out.symm
    have HC : Hid (compE p args = E ∧ compL p args = []) := ⟨hc, by unfold compL; rw [hc, if_neg hE0]⟩
    clear hc
    go_wp2
    go_ret2
    exact ⟨_, ret2i HC.out.1.symm, by rw [HC.out.2]; exact OM.nil _ _, HB1.out⟩
  subst hE0
  have HSp : Hid (DomM p) := small_of_check (checkAll1 HE.out.symm)
  go_wp2_with fail
  refine (checkAll_any _ args _ (HQ.out.kp (Kp.of_below HB1.out))).mono ?_
  rintro e w2 ⟨rfl, hb2⟩
  have HB2 : Hid (Below w.heap.size w w2) := below_step HB1.out hb2
  obtain ⟨F, hF⟩ : ∃ F, F = checkAllE args := ⟨_, rfl⟩
  have HF : Hid (F = checkAllE args) := hF
  rw [← hF]
  clear hF hb2
  by_cases hF0 : F = 0
  case neg =>
    have hb0 : (F != 0) = true := by rw [bne_iff_ne]; exact hF0
    have hc : compE p args = F := by unfold compE; rw [if_pos HE.out.symm, if_neg (by rw [← HF.out]; exact hF0)]; exact HF.out.symm
    have HC : Hid (compE p args = F ∧ compL p args = []) := ⟨hc, by unfold compL; rw [hc, if_neg hF0]⟩
    clear hc
    go_wp2
    go_ret2
    exact ⟨_, ret2i HC.out.1.symm, by rw [HC.out.2]; exact OM.nil _ _, HB2.out⟩
  subst hF0
  have HSa : Hid (∀ q ∈ args, DomM q) := checkAll_mem HF.out.symm
  go_wp2_with fail
  refine (variables_any _ p _ (HP.out.kp (Kp.of_below HB2.out))).mono ?_
  rintro e w3 ⟨rfl, hb3⟩
  have HB3 : Hid (Below w.heap.size w w3) := below_step HB2.out hb3
  obtain ⟨N, hN⟩ : ∃ N, N = varsN p := ⟨_, rfl⟩
  have HN : Hid (N = varsN p) := hN
  rw [← hN]
  clear hN hb3
  by_cases hNa : N ≤ args.length
  case neg =>
    have hc : compE p args = 21 := by unfold compE; rw [if_pos HE.out.symm, if_pos HF.out.symm, if_neg (by rw [← HN.out]; exact hNa)]
    have HC : Hid (compE p args = 21 ∧ compL p args = []) := ⟨hc, by unfold compL; rw [hc]; rfl⟩
    clear hc
    go_wp2
    go_ret2
    exact ⟨_, ret2i HC.out.1.symm, by rw [HC.out.2]; exact OM.nil _ _, HB3.out⟩
  have HCE : Hid (compE p args = (compGo args [] p).2) := by
    show _ = _
    unfold compE
    rw [if_pos HE.out.symm, if_pos HF.out.symm, if_pos (by rw [← HN.out]; exact hNa)]
  have hdec : decide (args.length < N) = false := decide_eq_false (by omega)
  go_wp2
  clear hmm
  have H0 : Hid (MapOk (w3.alloc (.map #[] 0)) w.heap.size w3.heap.size []) := MapOk.made w3 _
  have HB4 : Hid (Below w.heap.size w (w3.alloc (.map #[] 0))) := below_step HB3.out (below_alloc _)
  obtain ⟨G, hG⟩ : ∃ G, G = w3.heap.size := ⟨_, rfl⟩
  have hGw : w.heap.size ≤ G := by rw [hG]; exact HB3.out.size
  rw [← hG] at H0 ⊢
  clear hG
  go_loopw [32] (fun i wr => ∃ (k : Nat) (M : LkY), k ≤ p.length ∧ i = .int .i64 k ∧ compGo args [] p = compGo args M (p.drop k) ∧ M.length ≤ 256 ∧ MapOk wr w.heap.size G M ∧ Below w.heap.size w wr) (fun i _ => p.length - (intOf i).toNat)
  case atStart => exact ⟨0, [], by omega, rfl, rfl, by simp, H0.out, HB4.out⟩
  case round =>
    obtain ⟨k, M, hk, rfl, hpu, hM6, hmo, hbl⟩ := hrel
    have HPr : Hid (compGo args [] p = compGo args M (p.drop k)) := hpu
    have HMo : Hid (MapOk wr w.heap.size G M) := hmo
    have HBl : Hid (Below w.heap.size w wr) := hbl
    clear hpu hmo hbl H0 HB4
    by_cases hlt : k < p.length
    · obtain ⟨g, off, c, es, a1, c1, a2, c2, rfl, hm1, hc0, hc1, hmm, hl1, hl2, hl3, hl4⟩ := (HP.out.kp (Kp.of_below HBl.out)).at hlt
      have HX : Hid (p[k]? = some (c, es)) := hm1
      have HSm : Hid (Small es) := HSp.out k _ hm1
      have hle : es.length ≤ args.length := Nat.le_trans (varsN_ge hm1) (by rw [← HN.out]; exact hNa)
      have hbx := below_alloc (w := wr) (.cells #[.slice a1 c.length c1, .slice a2 es.length c2] 37)
      have hmm2 := hmm.kp (Kp.of_below hbx)
      have hone := ms_one hmm2.1
      rw [show (wr.alloc (.cells #[.slice a1 c.length c1, .slice a2 es.length c2] 37)).heap.size = wr.heap.size + 1 by simp] at hone
      have HOne : Hid (Ms ((wr.alloc (.cells #[.slice a1 c.length c1, .slice a2 es.length c2] 37)).alloc (.cells #[.slice a1 c.length c1, .slice none 0 0] 37)) (.slice (some ⟨wr.heap.size + 1, 0, none⟩) 1 1) [(c, [])]) := hone
      clear hone
      have hbx2 := below_alloc (w := wr.alloc (.cells #[.slice a1 c.length c1, .slice a2 es.length c2] 37)) (.cells #[.slice a1 c.length c1, .slice none 0 0] 37)
      have HEs : Hid (Is ((wr.alloc (.cells #[.slice a1 c.length c1, .slice a2 es.length c2] 37)).alloc (.cells #[.slice a1 c.length c1, .slice none 0 0] 37)) (.slice a2 es.length c2) es) := hmm2.2.kp (Kp.of_below hbx2)
      have HBx : Hid (Below wr.heap.size wr ((wr.alloc (.cells #[.slice a1 c.length c1, .slice a2 es.length c2] 37)).alloc (.cells #[.slice a1 c.length c1, .slice none 0 0] 37))) := below_step hbx hbx2
      clear hm1 hmm hmm2 hbx hbx2
      go_wp2_with fail
      refine (worthM_any 65 _ _ _ [(c, [])] es args _ timesM domM_prod HOne.out HEs.out ((HQ.out.kp (Kp.of_below HBl.out)).kp (Kp.of_below HBx.out)) (domM_one c) HSa.out HSm.out hle enterM).mono ?_
      rintro e w4 ⟨v4, rfl, ho4, hb4⟩
      obtain ⟨PW, hPW⟩ : ∃ PW, PW = worthV prodL prodE es args [(c, [])] := ⟨_, rfl⟩
      have HPW : Hid (PW = worthV prodL prodE es args [(c, [])]) := hPW
      rw [← hPW] at ho4 ⊢
      have HO4 : Hid (Ms w4 v4 PW.1) := ho4
      have hb04 := below_step HBx.out hb4
      have HM4 : Hid (MapOk w4 w.heap.size G M) := HMo.out.later hb04
      have HB4 : Hid (Below w.heap.size w w4) := below_step HBl.out hb04
      obtain ⟨E1, hE1⟩ : ∃ E1, E1 = PW.2 := ⟨_, rfl⟩
      have HE1 : Hid (E1 = PW.2) := hE1
      rw [← hE1]
      clear hPW hE1 ho4 hb4 hb04
      by_cases h1 : E1 = 0
      · subst h1
        have HDp : Hid (DomM PW.1) := by
          show DomM PW.1
          rw [HPW.out]
          unfold worthV
          split
          · exact domM_nil
          · rename_i hno
            refine D_worth domM_prod es args _ HSa.out (domM_one c) ?_
            have := HE1.out.symm
            rw [HPW.out] at this
            unfold worthV at this
            rw [if_neg hno] at this
            exact this
        go_wp2_with fail
        refine (putAll_any G w.heap.size M PW.1 _ _ HM4.out HO4.out HDp.out hM6 HB4.out.size).mono ?_
        rintro e w5 ⟨rfl, hm5, hg5⟩
        have HM5 : Hid (MapOk w5 w.heap.size G (puts M PW.1).1) := hm5
        have HB5 : Hid (Below w.heap.size w w5) := HB4.out.grown hg5 HB4.out.size (fun k hk => by cases hk; exact hGw)
        obtain ⟨E2, hE2⟩ : ∃ E2, E2 = (puts M PW.1).2 := ⟨_, rfl⟩
        have HE2 : Hid (E2 = (puts M PW.1).2) := hE2
        rw [← hE2]
        clear hE2 hm5 hg5
        by_cases h2 : E2 = 0
        · subst h2
          go_wp2
          go_roundw
          case rel =>
            refine ⟨k + 1, (puts M PW.1).1, by omega, by go_num, ?_, len_puts HE2.out.symm hM6, HM5.out, HB5.out⟩
            rw [HPr.out, drop_getY HX.out, compGo]
            simp only
            rw [← HPW.out, if_pos HE1.out.symm, if_pos HE2.out.symm]
          case measure => simp [intOf]; omega
        · have hb0 : (E2 != 0) = true := by rw [bne_iff_ne]; exact h2
          have hc : compE p args = E2 := by
            rw [HCE.out, HPr.out, drop_getY HX.out, compGo]
            simp only
            rw [← HPW.out, if_pos HE1.out.symm, if_neg (by rw [← HE2.out]; exact h2), ← HE2.out]
          have HC : Hid (compE p args = E2 ∧ compL p args = []) := ⟨hc, by unfold compL; rw [hc, if_neg h2]⟩
          clear hc
          go_wp2
          go_ret2
          exact ⟨_, ret2i HC.out.1.symm, by rw [HC.out.2]; exact OM.nil _ _, HB5.out⟩
      · have hb0 : (E1 != 0) = true := by rw [bne_iff_ne]; exact h1
        have hb1 : (E1 == 0) = false := by rw [beq_eq_false_iff_ne]; exact h1
        have hc : compE p args = E1 := by
          rw [HCE.out, HPr.out, drop_getY HX.out, compGo]
          simp only
          rw [← HPW.out, if_neg (by rw [← HE1.out]; exact h1), ← HE1.out]
        have HC : Hid (compE p args = E1 ∧ compL p args = []) := ⟨hc, by unfold compL; rw [hc, if_neg h1]⟩
        clear hc
        go_wp2
        go_ret2
        exact ⟨_, ret2i HC.out.1.symm, by rw [HC.out.2]; exact OM.nil _ _, HB4.out⟩
    · have hke : k = p.length := by omega
      subst hke
      have hfin : compGo args [] p = (M, 0) := by rw [HPr.out, List.drop_of_length_le (Nat.le_refl _)]; rfl
      have hc : compE p args = 0 := by rw [HCE.out, hfin]
      go_wp2_with fail
      refine (row_any G w.heap.size M _ HMo.out (by omega) HBl.out.size).mono ?_
      rintro e w6 ⟨v6, rfl, ho6, hb6⟩
      have HO6 : Hid (OM w6 w.heap.size v6 (compL p args)) := by
        show OM _ _ _ _
        unfold compL
        rw [if_pos hc, hfin]
        exact ho6
      have HC : Hid (compE p args = 0) := hc
      have HB6 : Hid (Below w.heap.size w w6) := below_step HBl.out hb6
      clear ho6 hb6 hfin hc
      go_wp2
      go_ret2
      exact ⟨_, ret2i HC.out.symm, HO6.out, HB6.out⟩

end Go.Proofs.YtdjmjhlbjcgoiaaGreatDoor

/- What Value answers. -/
namespace Go.Proofs.YtdjmjhlbjcgoiaaGreatDoor
open Go.RowKit Go.Maps

/-- The constant. -/
def constL (p : List Mn) : List Nat := match p with | [] => [] | m :: _ => if m.2.length = 0 then m.1 else []

set_option maxRecDepth 100000 in
theorem constant_any (v : Value) (p : List Mn) (w : World) (h : Ms w v p) :
    Calls Tryz.prog 104 #[v] w fun e w' => ∃ v', e = .returned v' ∧ Sl w' v' (constL p) ∧ w' = w := by
  obtain ⟨ao, cap, rfl, hao, hca, q0⟩ := Row.flat h
  unfold maxLen at hca
  have HM : Hid (Ms w (.slice ao p.length cap) p) := h
  clear h q0
  by_cases h0 : p.length = 0
  · obtain rfl : p = [] := List.eq_nil_of_length_eq_zero h0
    rw [List.length_nil]
    clear h0
    go_enter Tryz.func104, Tryz.ntmps104
    go_wp2
    go_ret
    exact ⟨_, rfl, Sl.nil _, rfl⟩
  · obtain ⟨g, off, c, es, a1, c1, a2, c2, rfl, hm1, hc0, hc1, hmo, hl1, hl2, hl3, hl4⟩ := HM.out.at (k := 0) (by omega)
    have hb0 : ((p.length : Int) == 0) = false := by rw [beq_eq_false_iff_ne]; omega
    have hpos : 0 < p.length := by omega
    have HS : Hid (Sl w (.slice a1 c.length c1) c) := hmo.1
    have HC : Hid (constL p = if es.length = 0 then c else []) := by
      show _ = _
      cases p with
      | nil => simp at hpos
      | cons m r => simp at hm1; subst hm1; rfl
    rw [Nat.zero_mul, Nat.add_zero] at hc0 hc1
    clear hm1 hmo
    by_cases he : es.length = 0
    · have HC' : Hid (constL p = c) := HC.out.trans (if_pos he)
      have hge : decide (0 < es.length) = false := decide_eq_false (by omega)
      have hge2 : ¬ (0 < es.length) := by omega
      clear he
      go_enter Tryz.func104, Tryz.ntmps104
      go_wp2
      go_ret
      exact ⟨_, rfl, by rw [HC'.out]; exact HS.out, rfl⟩
    · have HC' : Hid (constL p = []) := HC.out.trans (if_neg he)
      have hge : 0 < es.length := by omega
      go_enter Tryz.func104, Tryz.ntmps104
      go_wp2
      go_ret
      exact ⟨_, rfl, by rw [HC'.out]; exact Sl.nil _, rfl⟩

end Go.Proofs.YtdjmjhlbjcgoiaaGreatDoor

/- What AtLeast and Greater answer. -/
namespace Go.Proofs.YtdjmjhlbjcgoiaaGreatDoor
open Go.RowKit Go.Maps

/-- What of p is left for a monomial of q. -/
def leftP (m : Mn) : List Mn → List Mn
  | [] => []
  | x :: r => if cmpX x.2 m.2 < 0 then leftP m r else x :: r

def atGo : List Mn → List Mn → Bool
  | _, [] => true
  | p, m :: q =>
    match leftP m p with
    | [] => false
    | x :: r => if x.2 = m.2 then if 0 < cmpV m.1 x.1 then false else atGo (x :: r) q else false

def atLeastB (p q : List Mn) : Bool := if checkAllE [p, q] = 0 then atGo p q else false

def greaterB (p q : List Mn) : Bool := atLeastB p q && decide (0 < cmpV (constL p) (constL q))

theorem Ms.tail {w : World} {g off n cap : Nat} {m : Mn} {r : List Mn} (h : Ms w (.slice (some ⟨g, off, none⟩) n cap) (m :: r)) : Ms w (.slice (some ⟨g, off + 2, none⟩) r.length (cap - 1)) r := by
  obtain ⟨ao, cap', hv, hc, hm, hx⟩ := h
  simp only [Value.slice.injEq] at hv
  obtain ⟨hao, hn, rfl⟩ := hv
  simp only [List.length_cons] at hc
  refine ⟨_, _, rfl, by omega, by omega, fun h0 => ⟨g, off + 2, rfl, ?_, ?_⟩⟩
  · obtain ⟨g', off', e, hg, _⟩ := hx (by simp)
    rw [← hao] at e
    cases e
    exact hg
  · obtain ⟨g', off', e, hg, hk⟩ := hx (by simp)
    rw [← hao] at e
    cases e
    intro k x hxk
    have := hk (k + 1) x hxk
    rwa [show off + (k + 1) * 2 = off + 2 + k * 2 by omega] at this

set_option maxRecDepth 100000 in
set_option maxHeartbeats 1000000 in
theorem atLeast_any (v u : Value) (p q : List Mn) (w : World) (h : Ms w v p) (h' : Ms w u q) :
    Calls Tryz.prog 52 #[v, u] w fun e w' => e = .returned (.bool (atLeastB p q)) ∧ Below w.heap.size w w' := by
  obtain ⟨ao, cap, rfl, hao, hca, q0⟩ := Row.flat h
  obtain ⟨bo, cap', rfl, hbo, hcb, q0'⟩ := Row.flat h'
  unfold maxLen at hca hcb
  have HA : Hid (Ms w (.slice ao p.length cap) p) := h
  have HQ : Hid (Ms w (.slice bo q.length cap') q) := h'
  have HP : Hid _ := ps2 h h'
  clear h h' q0 q0'
  go_enter Tryz.func52, Tryz.ntmps52
  go_wp2_with fail
  refine (checkAll_any _ [p, q] _ HP.out).mono ?_
  rintro e w1 ⟨rfl, hb1⟩
  have HB1 : Hid (Below w.heap.size w w1) := below_step (below_alloc _) hb1
  obtain ⟨E, hE⟩ : ∃ E, E = checkAllE [p, q] := ⟨_, rfl⟩
  have HE : Hid (E = checkAllE [p, q]) := hE
  rw [← hE]
  clear hE hb1 HP
  by_cases hE0 : E = 0
  case neg =>
    have hb0 : (E != 0) = true := by rw [bne_iff_ne]; exact hE0
    have HC : Hid (atLeastB p q = false) := by
      show _ = _
      unfold atLeastB
      rw [if_neg (by rw [← HE.out]; exact hE0)]
    go_wp2
    go_ret
    exact ⟨ret1b HC.out.symm, HB1.out⟩
  subst hE0
  have HC : Hid (atLeastB p q = atGo p q) := by
    show _ = _
    unfold atLeastB
    rw [if_pos HE.out.symm]
  go_wp2
  go_loopw [0, 14] (fun x i wr => ∃ (l : Nat) (pc : List Mn), l ≤ q.length ∧ i = .int .i64 l ∧ Ms wr x pc ∧ atGo p q = atGo pc (q.drop l) ∧ Below w.heap.size w wr) (fun _ i _ => q.length - (intOf i).toNat)
  case atStart => exact ⟨0, p, by omega, rfl, HA.out.kp (Kp.of_below HB1.out), rfl, HB1.out⟩
  case round =>
    obtain ⟨l, pc, hl, rfl, hms, hat, hbl⟩ := hrel
    have HMs : Hid (Ms wr u0 pc) := hms
    have HAt : Hid (atGo p q = atGo pc (q.drop l)) := hat
    have HBl : Hid (Below w.heap.size w wr) := hbl
    clear hms hat hbl
    by_cases hll : l < q.length
    · obtain ⟨g', off', d, fs, b1, d1, b2, d2, rfl, hn1, he0, he1, hmn, hj1, hj2, hj3, hj4⟩ := (HQ.out.kp (Kp.of_below HBl.out)).at hll
      have HY : Hid (q[l]? = some (d, fs)) := hn1
      have hba := below_alloc (w := wr) (.cells #[.slice b1 d.length d1, .slice b2 fs.length d2] 37)
      obtain ⟨wb, hwb⟩ : ∃ wb, wb = wr.alloc (.cells #[.slice b1 d.length d1, .slice b2 fs.length d2] 37) := ⟨_, rfl⟩
      have hd0 : wb.cell? ⟨wr.heap.size, 0, none⟩ = some (.slice b1 d.length d1) := by rw [hwb]; simp
      have hd1 : wb.cell? ⟨wr.heap.size, 1, none⟩ = some (.slice b2 fs.length d2) := by rw [hwb]; simp
      have HMn : Hid (Mo wb (.slice b1 d.length d1) (.slice b2 fs.length d2) (d, fs)) := by rw [hwb]; exact hmn.kp (Kp.of_below hba)
      have HMb : Hid (Ms wb u0 pc) := by rw [hwb]; exact HMs.out.kp (Kp.of_below hba)
      have HBb : Hid (Below w.heap.size w wb) := by rw [hwb]; exact below_step HBl.out hba
      have HWb : Hid (wb = wr.alloc (.cells #[.slice b1 d.length d1, .slice b2 fs.length d2] 37)) := hwb
      obtain ⟨G6, hG6⟩ : ∃ G6, G6 = wr.heap.size := ⟨_, rfl⟩
      clear hn1 hmn hba hwb
      go_wp2
      rw [← HWb.out, ← hG6]
      rw [← hG6] at hd0 hd1
      clear hG6 HWb
      go_loopw [0] (fun x ws => ∃ pd : List Mn, Ms ws x pd ∧ leftP (d, fs) pc = leftP (d, fs) pd ∧ ∃ n, ws = wb.drewN n) (fun x _ => lenOfV x)
      case atStart => exact ⟨pc, HMb.out, rfl, 0, rfl⟩
      case round =>
        obtain ⟨pd, hmd, hlp, n, hws⟩ := hrel
        have HLp : Hid (leftP (d, fs) pc = leftP (d, fs) pd) := hlp
        have HWs : Hid (∃ n, wr = wb.drewN n) := ⟨n, hws⟩
        have hw0 : wr.cell? ⟨G6, 0, none⟩ = some (.slice b1 d.length d1) := by rw [hws]; exact hd0
        have hw1 : wr.cell? ⟨G6, 1, none⟩ = some (.slice b2 fs.length d2) := by rw [hws]; exact hd1
        have HBw : Hid (Below w.heap.size w wr) := by rw [hws]; exact below_drewN HBb.out n
        have HIf : Hid (Is wr (.slice b2 fs.length d2) fs) := by rw [hws]; exact HMn.out.2
        have HSd : Hid (Sl wr (.slice b1 d.length d1) d) := by rw [hws]; exact HMn.out.1
        clear hlp hws hd0 hd1
        cases pd with
        | nil =>
          obtain ⟨ao1, cap1, rfl, hc1, hc2, _⟩ := Row.flat hmd
          simp only [List.length_nil]
          have HF : Hid (atLeastB p q = false) := by
            show _ = _
            rw [HC.out, HAt.out, drop_getY HY.out, atGo, HLp.out]
            rfl
          clear hmd
          go_wp2
          go_quiet (fail)
          go_wp2
          go_quiet (fail)
          go_wp2
          go_ret
          exact ⟨ret1b HF.out.symm, below_drewN (below_drewN HBw.out _) _⟩
        | cons x r =>
          obtain ⟨ao1, cap1, rfl, hc1, hc2, q1⟩ := Row.flat hmd
          clear q1
          obtain ⟨c, es⟩ := x
          obtain ⟨g, off, c', es', a1, c3, a2, c2, rfl, hm1, hx0, hx1, hmo, hl1, hl2, hl3, hl4⟩ := hmd.at (k := 0) (by simp)
          simp only [List.getElem?_cons_zero, Option.some.injEq, Prod.mk.injEq] at hm1
          obtain ⟨rfl, rfl⟩ := hm1
          rw [Nat.zero_mul, Nat.add_zero] at hx0 hx1
          unfold maxLen at hc2
          have HTl : Hid (Ms wr (.slice (some ⟨g, off + 2, none⟩) r.length (cap1 - 1)) r) := hmd.tail
          have HMd : Hid (Ms wr (.slice (some ⟨g, off, none⟩) (r.length + 1) cap1) ((c, es) :: r)) := hmd
          have HIs : Hid (Is wr (.slice a2 es.length c2) es) := hmo.2
          have HSc : Hid (Sl wr (.slice a1 c.length c3) c) := hmo.1
          simp only [List.length_cons] at hc1 ⊢
          have hrl : (0 : Int) < (r.length : Int) + 1 := by omega
          have hrb : ((r.length : Int) + 1 == 0) = false := by rw [beq_eq_false_iff_ne]; omega
          clear hmd hmo
          cases hcf : decide (cmpX es fs < 0)
          · have HCf : Hid (decide (cmpX es fs < 0) = false) := hcf
            have hne := of_decide_eq_false hcf
            have HLe : Hid (leftP (d, fs) pc = (c, es) :: r) := by
              show _ = _
              rw [HLp.out, leftP, if_neg hne]
            clear hcf hne
            go_wp2
            go_quiet ((go_at_call 105; exact Calls.quiet_of_same (HCf.out ▸ comesFirst_any _ _ es fs _ (HIs.out.kp (Kp.drewN _ _)) (HIf.out.kp (Kp.drewN _ _)))))
            go_wp2
            obtain ⟨wq, hwq⟩ : ∃ wq, wq = wr.drewN nq := ⟨_, rfl⟩
            have hq0 : wq.cell? ⟨g, off, none⟩ = some (.slice a1 c.length c3) := by rw [hwq]; exact hx0
            have hq1 : wq.cell? ⟨g, off + 1, none⟩ = some (.slice a2 es.length c2) := by rw [hwq]; exact hx1
            have hq2 : wq.cell? ⟨G6, 0, none⟩ = some (.slice b1 d.length d1) := by rw [hwq]; exact hw0
            have hq3 : wq.cell? ⟨G6, 1, none⟩ = some (.slice b2 fs.length d2) := by rw [hwq]; exact hw1
            have HIsq : Hid (Is wq (.slice a2 es.length c2) es) := by rw [hwq]; exact HIs.out
            have HIfq : Hid (Is wq (.slice b2 fs.length d2) fs) := by rw [hwq]; exact HIf.out
            have HScq : Hid (Sl wq (.slice a1 c.length c3) c) := by rw [hwq]; exact HSc.out
            have HSdq : Hid (Sl wq (.slice b1 d.length d1) d) := by rw [hwq]; exact HSd.out
            have HMdq : Hid (Ms wq (.slice (some ⟨g, off, none⟩) (r.length + 1) cap1) ((c, es) :: r)) := by rw [hwq]; exact HMd.out
            have HBq : Hid (Below w.heap.size w wq) := by rw [hwq]; exact below_drewN HBw.out _
            rw [← hwq]
            clear hwq hx0 hx1 hw0 hw1
            by_cases heq : es = fs
            · have HEq : Hid (decide (es = fs) = true) := decide_eq_true heq
              have HEq0 : Hid (es = fs) := heq
              clear heq
              cases hab : decide (0 < cmpV d c)
              · have HAb : Hid (decide (0 < cmpV d c) = false) := hab
                have hna := of_decide_eq_false hab
                have HNx : Hid (atGo p q = atGo ((c, es) :: r) (q.drop (l + 1))) := by
                  show _ = _
                  rw [HAt.out, drop_getY HY.out, atGo, HLe.out]
                  simp only
                  rw [if_pos HEq0.out, if_neg hna]
                clear hab hna
                go_quiet (first
                  | (go_at_call 106; exact Calls.quiet_of (HEq.out ▸ slicesEqual_any _ _ es fs _ (HIsq.out.kp (Kp.drewN _ _)) (HIfq.out.kp (Kp.drewN _ _))))
                  | (go_at_call 103; exact Calls.quiet_of (HAb.out ▸ isAbove_any _ _ d c _ (HSdq.out.kp (Kp.drewN _ _)) (HScq.out.kp (Kp.drewN _ _)))))
                go_wp2
                go_roundw
                case rel => exact ⟨l + 1, (c, es) :: r, by omega, by go_num, HMdq.out.kp (Kp.drewN _ _), HNx.out, below_drewN HBq.out _⟩
                case measure => simp [intOf]; omega
              · have HAb : Hid (decide (0 < cmpV d c) = true) := hab
                have hna := of_decide_eq_true hab
                have HF : Hid (atLeastB p q = false) := by
                  show _ = _
                  rw [HC.out, HAt.out, drop_getY HY.out, atGo, HLe.out]
                  simp only
                  rw [if_pos HEq0.out, if_pos hna]
                clear hab hna
                go_quiet (first
                  | (go_at_call 106; exact Calls.quiet_of (HEq.out ▸ slicesEqual_any _ _ es fs _ (HIsq.out.kp (Kp.drewN _ _)) (HIfq.out.kp (Kp.drewN _ _))))
                  | (go_at_call 103; exact Calls.quiet_of (HAb.out ▸ isAbove_any _ _ d c _ (HSdq.out.kp (Kp.drewN _ _)) (HScq.out.kp (Kp.drewN _ _)))))
                go_wp2
                go_ret
                exact ⟨ret1b HF.out.symm, below_drewN HBq.out _⟩
            · have HEq : Hid (decide (es = fs) = false) := decide_eq_false heq
              have HF : Hid (atLeastB p q = false) := by
                show _ = _
                rw [HC.out, HAt.out, drop_getY HY.out, atGo, HLe.out]
                simp only
                rw [if_neg heq]
              clear heq
              go_quiet ((go_at_call 106; exact Calls.quiet_of (HEq.out ▸ slicesEqual_any _ _ es fs _ (HIsq.out.kp (Kp.drewN _ _)) (HIfq.out.kp (Kp.drewN _ _)))))
              go_wp2
              go_ret
              exact ⟨ret1b HF.out.symm, below_drewN HBq.out _⟩
          · have HCf : Hid (decide (cmpX es fs < 0) = true) := hcf
            have hlt := of_decide_eq_true hcf
            have HLp2 : Hid (leftP (d, fs) pc = leftP (d, fs) r) := by
              show _ = _
              rw [HLp.out, leftP, if_pos hlt]
            clear hcf hlt
            go_wp2
            go_quiet ((go_at_call 105; exact Calls.quiet_of_same (HCf.out ▸ comesFirst_any _ _ es fs _ (HIs.out.kp (Kp.drewN _ _)) (HIf.out.kp (Kp.drewN _ _)))))
            go_wp2
            refine ⟨⟨r, ?_, HLp2.out, ?_⟩, by simp [lenOfV]⟩
            · by_cases hcp : cap1 = 1
              · rw [if_pos hcp]
                obtain rfl : r = [] := List.eq_nil_of_length_eq_zero (by omega)
                exact Row.nil (by unfold maxLen; omega)
              · rw [if_neg hcp]
                exact HTl.out.kp (Kp.drewN _ _)
            · obtain ⟨m, hm⟩ := HWs.out
              exact ⟨_, by rw [hm]; exact World.drewN_drewN _ _ _⟩
    · have hle : l = q.length := by omega
      subst hle
      have HF : Hid (atLeastB p q = true) := by
        show _ = _
        rw [HC.out, HAt.out, List.drop_of_length_le (Nat.le_refl _)]
        simp [atGo]
      go_wp2
      go_ret
      exact ⟨ret1b HF.out.symm, HBl.out⟩

set_option maxRecDepth 100000 in
theorem greater_any (v u : Value) (p q : List Mn) (w : World) (h : Ms w v p) (h' : Ms w u q) :
    Calls Tryz.prog 51 #[v, u] w fun e w' => e = .returned (.bool (greaterB p q)) ∧ Below w.heap.size w w' := by
  have HA : Hid (Ms w v p) := h
  have HB : Hid (Ms w u q) := h'
  go_enter Tryz.func51, Tryz.ntmps51
  go_wp2_with fail
  refine (atLeast_any _ _ p q _ h h').mono ?_
  rintro e w1 ⟨rfl, hb1⟩
  have HB1 : Hid (Below w.heap.size w w1) := hb1
  clear hb1 h h'
  cases ha : atLeastB p q
  · have HG : Hid (greaterB p q = false) := by
      show _ = _
      unfold greaterB
      rw [ha]
      rfl
    clear ha
    go_wp2
    go_ret
    exact ⟨ret1b HG.out.symm, HB1.out⟩
  · have HG : Hid (greaterB p q = decide (0 < cmpV (constL p) (constL q))) := by
      show _ = _
      unfold greaterB
      rw [ha, Bool.true_and]
    clear ha
    go_wp2_with fail
    refine (constant_any _ p _ (HA.out.kp (Kp.of_below HB1.out))).mono ?_
    rintro e w9 ⟨v3, rfl, hs3, hw9⟩
    have hw8 := hw9.symm
    subst hw8
    have HS3 : Hid (Sl w1 v3 (constL p)) := hs3
    clear hw9 hs3
    go_wp2_with fail
    refine (constant_any _ q _ (HB.out.kp (Kp.of_below HB1.out))).mono ?_
    rintro e w9 ⟨v4, rfl, hs4, hw9⟩
    have hw8 := hw9.symm
    subst hw8
    have HS4 : Hid (Sl w1 v4 (constL q)) := hs4
    clear hw9 hs4
    go_wp2_with fail
    refine (isAbove_any _ _ (constL p) (constL q) _ HS3.out HS4.out).mono ?_
    rintro e w9 ⟨rfl, n, rfl⟩
    obtain ⟨B, hB⟩ : ∃ B, B = decide (0 < cmpV (constL p) (constL q)) := ⟨_, rfl⟩
    have HBB : Hid (B = decide (0 < cmpV (constL p) (constL q))) := hB
    rw [← hB]
    clear hB
    go_wp2
    go_ret
    exact ⟨ret1b (HBB.out.trans HG.out.symm), below_drewN HB1.out _⟩

end Go.Proofs.YtdjmjhlbjcgoiaaGreatDoor

/- The document's small calls of layer 2, and sameNat of the law file. -/
namespace Go.Proofs.YtdjmjhlbjcgoiaaGreatDoor
open Go.RowKit Go.Maps

/-- A variable's exponent. -/
def expI (es : List Int) (k : Nat) : Int := (es[k]?).getD 0

set_option maxRecDepth 100000 in
theorem refExp_any (v : Value) (es : List Int) (k : Nat) (w : World) (h : Is w v es) (_hk : k ≤ 9223372036854775807) :
    Calls Tryz.prog 148 #[v, .int .i64 (k : Int)] w fun e w' => e = .returned (.int .i64 (expI es k)) ∧ w' = w := by
  obtain ⟨ao, cap, rfl, hao, hca, q0⟩ := Row.flat h
  unfold maxLen at hca
  have HI : Hid (Is w (.slice ao es.length cap) es) := h
  clear h q0
  by_cases hlt : k < es.length
  · obtain ⟨g, off, x, rfl, hx1, hx2, hx3, hx4⟩ := HI.out.at hlt
    have HX : Hid (expI es k = x) := by
      show _ = _
      unfold expI
      rw [hx1]
      rfl
    clear hx1
    go_enter Tryz.func148, Tryz.ntmps148
    go_wp2
    go_ret
    exact ⟨ret1i HX.out.symm, rfl⟩
  · have HX : Hid (expI es k = 0) := by
      show _ = _
      unfold expI
      rw [List.getElem?_eq_none (by omega)]
      rfl
    go_enter Tryz.func148, Tryz.ntmps148
    go_wp2
    go_ret
    exact ⟨ret1i HX.out.symm, rfl⟩

set_option maxHeartbeats 1000000 in
theorem refForm_any (cv ev : Value) (m : Mn) (w : World) (h : Mo w cv ev m) :
    Calls Tryz.prog 91 #[.agg #[cv, ev]] w fun e w' => e = .returned (.bool (monB m)) ∧ Below w.heap.size w w' := by
  obtain ⟨c, es⟩ := m
  obtain ⟨hs, hi⟩ := h
  simp only at hs hi
  have hB := below_alloc (w := w) (.cells #[cv, ev] 37)
  have HB : Hid (Below w.heap.size w (w.alloc (.cells #[cv, ev] 37))) := hB
  have HS : Hid (Sl (w.alloc (.cells #[cv, ev] 37)) cv c) := hs.kp (Kp.of_below hB)
  have hi2 := hi.kp (Kp.of_below hB)
  obtain ⟨ao, cap, rfl, hao, hca, q0⟩ := hs.flat
  obtain ⟨bo, cap', rfl, hbo, hcb, hcl⟩ := hi2.flat
  unfold maxLen at hca hcb
  clear q0 hs hi hi2 hB
  go_enter Tryz.func91, Tryz.ntmps91
  go_wp2_with fail
  refine (refRight_anyY _ _ _ HS.out).mono ?_
  rintro e w9 ⟨rfl, hw9⟩
  have hw8 := hw9.symm
  subst hw8
  clear hw9
  cases hr : rightB c
  · have HR : Hid (rightB c = false) := hr
    clear hr hcl
    go_wp2
    go_ret
    exact ⟨ret1b (monB_noR HR.out).symm, HB.out⟩
  have HR : Hid (rightB c = true) := hr
  clear hr
  obtain ⟨wb, hwb⟩ : ∃ wb, wb = w.alloc (.cells #[.slice ao c.length cap, .slice bo es.length cap'] 37) := ⟨_, rfl⟩
  have hc0 : wb.cell? ⟨w.heap.size, 0, none⟩ = some (.slice ao c.length cap) := by rw [hwb]; simp
  have hc1 : wb.cell? ⟨w.heap.size, 1, none⟩ = some (.slice bo es.length cap') := by rw [hwb]; simp
  rw [← hwb] at HB HS hcl ⊢
  clear hwb
  by_cases h0 : c.length = 0
  · have H0 : Hid (c.length = 0) := h0
    have hb0 : ((c.length : Int) == 0) = true := by rw [beq_iff_eq]; omega
    clear hcl h0
    go_wp2
    go_ret
    exact ⟨ret1b (monB_no0 H0.out).symm, HB.out⟩
  have hb0 : ((c.length : Int) == 0) = false := by rw [beq_eq_false_iff_ne]; omega
  go_wp2
  go_loopw [3] (fun i wr => ∃ k : Nat, k ≤ es.length ∧ i = .int .i64 k ∧ (∀ (j : Nat) (x : Int), j < k → es[j]? = some x → 0 ≤ x) ∧ wr = wb) (fun i _ => es.length - (intOf i).toNat)
  case atStart => exact ⟨0, by omega, rfl, fun j x hj => absurd hj (by omega), rfl⟩
  case round =>
    obtain ⟨k, hk, rfl, hp, hw⟩ := hrel
    subst hw
    have HP : Hid (∀ (j : Nat) (x : Int), j < k → es[j]? = some x → 0 ≤ x) := hp
    clear hp
    by_cases hlt : k < es.length
    · obtain ⟨g, off, x, rfl, hx1, hx2, hx3, hx4⟩ := hcl k hlt
      have HX : Hid (es[k]? = some x) := hx1
      rw [Nat.mul_one] at hx4
      clear hx1 hcl
      by_cases hx : x < 0
      · go_wp2
        go_ret
        exact ⟨ret1b (monB_neg HX.out hx).symm, HB.out⟩
      · go_wp2
        go_roundw
        case rel =>
          refine ⟨k + 1, by omega, by go_num, fun j y hj hy => ?_, trivial⟩
          by_cases hjk : j = k
          · subst hjk; rw [HX.out] at hy; cases hy; omega
          · exact HP.out j y (by omega) hy
        case measure => simp [intOf]; omega
    · have hke : k = es.length := by omega
      subst hke
      have HY : Hid (monB (c, es) = (es.length == 0 || !(es[es.length - 1]? == some 0))) := monB_yes h0 HR.out (fun j x hx => HP.out j x (List.getElem?_eq_some_iff.1 hx).1 hx)
      by_cases hz : es.length = 0
      · have hb1 : ((es.length : Int) == 0) = true := by rw [beq_iff_eq]; omega
        clear hcl
        go_wp2
        go_ret
        exact ⟨ret1b (by rw [HY.out, hz]; rfl), HB.out⟩
      · have hb1 : ((es.length : Int) == 0) = false := by rw [beq_eq_false_iff_ne]; omega
        obtain ⟨g, off, x, rfl, hx1, hx2, hx3, hx4⟩ := hcl (es.length - 1) (by omega)
        rw [Nat.mul_one] at hx4
        have HX : Hid (es[es.length - 1]? = some x) := hx1
        have hpos : 0 < es.length := by omega
        clear hx1 hcl
        go_wp2
        go_ret
        refine ⟨ret1b ?_, HB.out⟩
        have hz' : (es.length == 0) = false := by simpa using hz
        rw [HY.out, HX.out, hz', Bool.false_or, bne, Option.some_beq_some]

end Go.Proofs.YtdjmjhlbjcgoiaaGreatDoor
