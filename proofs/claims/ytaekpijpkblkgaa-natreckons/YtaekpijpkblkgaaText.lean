/- What writing a natural answers. -/
import Derived.Test.YtaekpijpkblkgaaByt
import Derived.Test.YtaekpijpkblkgaaSum
import Derived.Laws.IdiomStrings
namespace Go.Proofs.Ytaekpijpkblkgaa
open Go.RowKit

theorem info_u8 : (Try.prog.info? 5).map (fun i => (i.zero, i.size, i.bytes)) = some (some (.int .u8 0), 1, 1) := by kernel_rfl
theorem under_bytes : Try.prog.underlying 47 = some (.slice 5) := by kernel_rfl
theorem under_u8 : Try.prog.underlying 5 = some (.int .u8) := by kernel_rfl
theorem under_string : Try.prog.underlying 9 = some .string := by kernel_rfl

theorem Ow.kept {w w' : World} {base : Nat} {v : Value} {xs : List Nat} {row : Option Nat} (h : Ow w base v xs) (hg : w.grownBy w' row) (hne : v.ownBlock = none ∨ v.ownBlock ≠ row) : Ow w' base v xs := ⟨h.1, h.2.kept hg hne⟩
theorem Ob.kept {w w' : World} {base : Nat} {v : Value} {bs : List UInt8} {row : Option Nat} (h : Ob w base v bs) (hg : w.grownBy w' row) (hne : v.ownBlock = none ∨ v.ownBlock ≠ row) : Ob w' base v bs := World.ownsRow.kept h hg hne

theorem Ow.apart {w : World} {base base' : Nat} {v u : Value} {xs : List Nat} {bs : List UInt8} (h : Ow w base v xs) (k : Ob w base' u bs) : u.ownBlock = none ∨ u.ownBlock ≠ v.ownBlock := by
  rcases h.2.2 with ⟨rfl, _⟩ | ⟨g, cap, cur, rfl, _, hg, _⟩
  · cases hu : u.ownBlock with
    | none => exact .inl rfl
    | some x => exact .inr (by simp [Value.ownBlock])
  · rcases k.2 with ⟨rfl, _⟩ | ⟨g', cap', cur', rfl, _, hg', _⟩
    · exact .inl rfl
    · refine .inr ?_
      simp only [Value.ownBlock, ne_eq, Option.some.injEq]
      rintro rfl
      rw [hg] at hg'
      simp at hg'

theorem Ow.apart' {w : World} {base base' : Nat} {v u : Value} {xs : List Nat} {bs : List UInt8} (h : Ow w base v xs) (k : Ob w base' u bs) : v.ownBlock = none ∨ v.ownBlock ≠ u.ownBlock := by
  rcases h.2.2 with ⟨rfl, _⟩ | ⟨g, cap, cur, rfl, _, hg, _⟩
  · exact .inl rfl
  · rcases k.2 with ⟨rfl, _⟩ | ⟨g', cap', cur', rfl, _, hg', _⟩
    · exact .inr (by simp [Value.ownBlock])
    · refine .inr ?_
      simp only [Value.ownBlock, ne_eq, Option.some.injEq]
      rintro rfl
      rw [hg] at hg'
      simp at hg'

theorem Ob.len {w : World} {base : Nat} {v : Value} {bs : List UInt8} (h : Ob w base v bs) : lenOfV v = bs.length := by
  rcases h.shape with ⟨rfl, rfl⟩ | ⟨g, cap, rfl, _⟩ <;> rfl

theorem Ob.nil (w : World) (base : Nat) : Ob w base (.slice none 0 0) [] := World.ownsRow_nil _ _ _ _

theorem Ob.block {w : World} {base : Nat} {v : Value} {bs : List UInt8} (h : Ob w base v bs) : ∀ k, v.ownBlock = some k → base ≤ k := fun k hk => (World.ownsRow.lt h k hk).1
theorem Ow.block {w : World} {base : Nat} {v : Value} {xs : List Nat} (h : Ow w base v xs) : ∀ k, v.ownBlock = some k → base ≤ k := fun k hk => (World.ownsRow.lt h.2 k hk).1

theorem conv_one (w : World) (D : Nat) (h : D ≤ 9) : (convert 47 9 (.slice (some ⟨w.heap.size, 0, none⟩) 1 1)).run Try.prog (w.alloc (.cells #[.int .u8 (48 + (D : Int))] 5)) =
    .ok (.string ⟨[letter D].toArray⟩) (w.alloc (.cells #[.int .u8 (48 + (D : Int))] 5)) := by
  refine run_convert_bytes_back (P := Try.prog) _ 47 9 5 ⟨w.heap.size, 0, none⟩ 1 [letter D] under_bytes under_u8 under_string ?_
  intro j hj
  have hj0 : j = 0 := by simpa using hj
  subst hj0
  rw [Addr.add_lit, World.cell?_alloc_at (hn := rfl)]
  have : ((letter D).toNat : Int) = 48 + (D : Int) := by rw [letter_toNat (by omega)]; omega
  simp [this]

set_option maxHeartbeats 1000000 in
theorem text_pos (v : Value) (xs : List Nat) (w : World) (h : Sl w v xs) (hr : rightB xs = true) (h0 : ¬ xs.length = 0) :
    Calls Try.prog 24 #[v] w fun e w' => e = .returned (.tuple #[.string ⟨(dec (val xs)).toArray⟩, .int .i64 0]) ∧ Below w.heap.size w w' := by
  obtain ⟨ao, cap, rfl, hao, hca, hcl⟩ := h.flat
  unfold maxLen at hca
  obtain ⟨i0, hi, hz0, hz1, hz2⟩ := info_parts info_u32
  obtain ⟨j0, hj, hj0, hj1, hj2⟩ := info_parts info_u8
  have h64 := length_le_of_right hr
  have HL : Hid (limbs (val xs) = xs) := limbs_val_of_right h.1 hr
  have HT : Hid ((tens (val xs)).length ≤ 640) := by have := tens_length_limbs h.1; show _ ≤ _; omega
  have HS : Hid (Sl w (.slice ao xs.length cap) xs) := h
  have hb0 : ((xs.length : Int) == 0) = false := by rw [beq_eq_false_iff_ne]; omega
  clear hcl
  go_enter Try.func24, Try.ntmps24
  go_wp2_with fail
  refine (right_any _ xs _ h).mono ?_
  rintro e w1 ⟨rfl, rfl⟩
  rw [hr]
  clear h hr
  go_wp2_with (first
    | (at_make; refine wpList_make_full _ rfl _ _ 22 rfl w1.heap.size 42 i0 (.int .u32 0) 1 under_row hi hz0 hz1 .i64 .i64 _ _ xs.length rfl rfl (by omega) (by omega) (by rw [hz2]; omega) (by unfold maxLen; omega) (Nat.le_refl _) ?_; intro w0 hown0 hgrow0))
  have hbl0 : Below w1.heap.size w1 w0 := (Below.refl _ _).grown hgrow0 (Nat.le_refl _) (by intro k hk; cases hk)
  obtain ⟨w2, hrun, ho2, hg2⟩ := run_copy_own (Ow.made hown0) (by simp) (HS.out.later hbl0) (by omega)
  have hbl2 : Below w1.heap.size w1 w2 := hbl0.grown hg2 hbl0.size (by intro k hk; simp at hk; omega)
  have HO : Hid (Ow w2 w1.heap.size (.slice (some ⟨w1.heap.size, 0, none⟩) xs.length xs.length) (limbs (val xs))) := by
    have := ho2
    rw [List.drop_replicate, Nat.sub_self, List.replicate_zero, List.append_nil] at this
    rw [HL.out]
    exact this
  rw [hrun]
  clear hown0 hgrow0 ho2 hg2 hbl0 hrun
  go_wp2
  go_loopw [4, 5] (fun r d wr => ∃ (m : Nat) (D : List Nat) (ao : Option Addr) (n c : Nat), r = .slice ao n c ∧ Ow wr w1.heap.size (.slice ao n c) (limbs m) ∧ Ob wr w1.heap.size d (D.map letter) ∧ tens (val xs) = D ++ tens m ∧ Below w1.heap.size w1 wr)
    (fun _ d _ => (tens (val xs)).length - lenOfV d)
  case atStart => exact ⟨val xs, [], _, _, _, rfl, HO.out, Ob.nil _ _, rfl, hbl2⟩
  case round =>
    obtain ⟨m, D, a1, n1, c1, rfl, how, hob, htens, hbl⟩ := hrel
    have HD : Hid (tens (val xs) = D ++ tens m) := htens
    clear HO hbl2 htens
    have hn1 := how.len
    by_cases hm : m = 0
    · subst hm
      rw [limbs_zero] at how hn1
      simp only [List.length_nil] at hn1
      subst hn1
      have hD : tens (val xs) = D := by rw [HD.out, tens_zero, List.append_nil]
      have hv0 : val xs ≠ 0 := by
        intro hv
        have := HL.out
        rw [hv, limbs_zero] at this
        rw [← this] at h0
        simp at h0
      have hdec : dec (val xs) = (D.map letter).reverse := by unfold dec; rw [if_neg hv0, hD, List.map_reverse]
      have HDEC : Hid (dec (val xs) = (D.map letter).reverse) := hdec
      have hDpos : 0 < (D.map letter).length := by
        rw [List.length_map, ← hD, tens_pos hv0]; simp
      rcases hob.shape with ⟨_, hnil⟩ | ⟨g, cp, rfl, hg1, hg2, hg3, hg4, _, _⟩
      · rw [hnil] at hDpos; simp at hDpos
      have HOB : Hid (Ob wr w1.heap.size (.slice (some ⟨g, 0, none⟩) (D.map letter).length cp) (D.map letter)) := hob
      clear how hob hD hv0 hdec HS HL HD HT
      generalize D.map letter = L at *
      go_wp2_with fail
      refine (reverse_any g _ cp _ L _ HOB.out rfl).mono ?_
      rintro e w3 ⟨rfl, ho3, hg3'⟩
      have hconv : (convert 47 9 (.slice (some ⟨g, 0, none⟩) L.length cp)).run Try.prog w3 = .ok (.string ⟨L.reverse.toArray⟩) w3 := by
        have := run_convert_bytes_back (P := Try.prog) w3 47 9 5 ⟨g, 0, none⟩ cp L.reverse under_bytes under_u8 under_string (by
          intro j hj
          rw [Addr.add_lit, Nat.zero_add]
          rcases ho3.shape with ⟨hv, _⟩ | ⟨g', cap', hv, _, _, _, _, hx, _⟩
          · cases hv
          · simp only [Value.slice.injEq, Option.some.injEq, Addr.mk.injEq, and_true] at hv
            obtain ⟨rfl, _⟩ := hv
            exact hx j _ (List.getElem?_eq_getElem hj))
        rw [List.length_reverse] at this
        exact this
      have hbl3 : Below w1.heap.size w1 w3 := hbl.grown hg3' hbl.size (by intro k hk; simp at hk; omega)
      clear ho3 hg3'
      go_wp2
      go_ret2
      exact ⟨by rw [HDEC.out]; rfl, hbl3⟩
    · have hpos := limbs_length_pos hm
      subst hn1
      rcases how.shape with ⟨_, hnil⟩ | ⟨g, cp, hv, hg1, hg2, hg3, hg4, _, _⟩
      · rw [hnil] at hpos; simp at hpos
      simp only [Value.slice.injEq] at hv
      obtain ⟨rfl, _, rfl⟩ := hv
      unfold maxLen at hg4
      have HOW : Hid (Ow wr w1.heap.size (.slice (some ⟨g, 0, none⟩) (limbs m).length c1) (limbs m)) := how
      have HOB : Hid (Ob wr w1.heap.size u5 (D.map letter)) := hob
      have HDL : Hid (D.length + 1 ≤ 640) := by
        have h1 := HT.out
        rw [HD.out, tens_pos hm, List.length_append] at h1
        simp at h1
        show _ ≤ _
        omega
      have HTL : Hid (D.length + 1 ≤ (tens (val xs)).length) := by
        show _ ≤ _
        rw [HD.out, tens_pos hm, List.length_append]
        simp
      clear how hob
      go_wp2_with fail
      refine (ten_any g _ c1 _ (limbs m) _ HOW.out).mono ?_
      rintro e w3 ⟨rfl, ⟨qs, ho3, hv3⟩, hg3'⟩
      rw [val_limbs] at hv3 ⊢
      have hob3 : Ob w3 w1.heap.size u5 (D.map letter) := HOB.out.kept hg3' (HOW.out.apart HOB.out)
      have hbl3 : Below w1.heap.size w1 w3 := hbl.grown hg3' hbl.size (by intro k hk; simp at hk; omega)
      have hs3 : w1.heap.size ≤ w3.heap.size := hbl3.size
      have hlet : ((letter (m % 10)).toNat : Int) = 48 + (m : Int) % 10 := by rw [letter_toNat (by omega)]; omega
      have HLET : Hid (((letter (m % 10)).toNat : Int) = 48 + (m : Int) % 10) := hlet
      have HV3 : Hid (val qs = m / 10) := hv3
      have HOW3 : Hid (Ow w3 w1.heap.size (.slice (some ⟨g, 0, none⟩) (limbs m).length c1) qs) := ho3
      have HOB3 : Hid (Ob w3 w1.heap.size u5 (D.map letter)) := hob3
      have HBL3 : Hid (Below w1.heap.size w1 w3) := hbl3
      have hmod : m % 10 < 10 := Nat.mod_lt _ (by omega)
      clear ho3 hv3 hg3' hob3 hbl3 hlet
      go_wp2_with (first
        | (at_builtin; refine wpList_append_own _ rfl _ _ 47 rfl w1.heap.size 5 j0 (.int .u8 0) 1 1 under_bytes hj hj0 hj1 hj2 rfl (by decide) _ _ _ rfl (World.ownsRow.alloc HOB3.out _) ⟨w3.heap.size, 0, none⟩ 1 1 [.int .u8 (48 + (m : Int) % 10)] rfl rfl ?c1 ?c2 ?c3 ?c4 ?c5 ?_; rotate_right; intro v4 w4 hown4 hgrow4 _))
      case c1 => exact cell_one_new _ _ _
      case c2 => intro u hu; simp at hu; subst hu; rfl
      case c3 => have := HDL.out; rw [List.length_map]; unfold maxLen; omega
      case c4 => have := HDL.out; rw [List.length_map]; omega
      case c5 => simp; omega
      have hob4 : Ob w4 w1.heap.size v4 ((D ++ [m % 10]).map letter) := by
        have := hown4
        unfold Ob
        rw [← HLET.out] at this
        simpa [V8] using this
      have how4 : Ow w4 w1.heap.size (.slice (some ⟨g, 0, none⟩) (limbs m).length c1) qs := (HOW3.out.kept (World.grownBy_alloc w3 _ none) (.inr (by simp [Value.ownBlock]))).kept hgrow4 (HOW3.out.apart' HOB3.out)
      have hbl4 : Below w1.heap.size w1 w4 := (HBL3.out.alloc hs3 _).grown hgrow4 (by simp; omega) HOB3.out.block
      have HOB4 : Hid (Ob w4 w1.heap.size v4 ((D ++ [m % 10]).map letter)) := hob4
      clear hown4 hgrow4 hob4
      refine (trimmed_any _ qs _ _ how4).mono ?_
      rintro e w5 ⟨v5, rfl, ho5, _, rfl⟩
      rw [HV3.out] at ho5
      have HO5 : Hid (Ow w5 w1.heap.size v5 (limbs (m / 10))) := ho5
      clear ho5 how4
      go_wp2
      go_roundw
      case rel =>
        obtain ⟨a5, c5, rfl, _⟩ := HO5.out.sl.flat
        exact ⟨m / 10, D ++ [m % 10], _, _, _, rfl, HO5.out, HOB4.out, by rw [HD.out, tens_pos hm]; simp, hbl4⟩
      case measure =>
        have h1 := HOB4.out.len
        have h2 := HOB.out.len
        have h3 := HTL.out
        simp at h1 h2
        simp [h1, h2]
        omega

set_option maxHeartbeats 400000 in
theorem text_any (v : Value) (xs : List Nat) (w : World) (h : Sl w v xs) :
    Calls Try.prog 24 #[v] w fun e w' => e = .returned (.tuple #[.string ⟨(textS xs).toArray⟩, .int .i64 (textE xs)]) ∧ Below w.heap.size w w' := by
  cases hr : rightB xs
  · go_enter Try.func24, Try.ntmps24
    go_wp2_with fail
    refine (right_any v xs _ h).mono ?_
    rintro e w1 ⟨rfl, rfl⟩
    rw [hr]
    go_wp2
    go_ret2
    exact ⟨by simp [textS, textE, hr], Below.refl _ _⟩
  · by_cases h0 : xs.length = 0
    · obtain rfl : xs = [] := List.eq_nil_of_length_eq_zero h0
      obtain ⟨ao, cap, rfl, hao, hca, hcl⟩ := h.flat
      clear hcl
      go_enter Try.func24, Try.ntmps24
      go_wp2_with fail
      refine (right_any _ [] _ h).mono ?_
      rintro e w1 ⟨rfl, rfl⟩
      rw [hr]
      go_wp2
      go_ret2
      exact ⟨by simp [textS, textE, hr, val, dec], Below.refl _ _⟩
    · refine (text_pos v xs w h hr h0).mono ?_
      rintro e w1 ⟨rfl, hb⟩
      exact ⟨by simp [textS, textE, hr], hb⟩

end Go.Proofs.Ytaekpijpkblkgaa
