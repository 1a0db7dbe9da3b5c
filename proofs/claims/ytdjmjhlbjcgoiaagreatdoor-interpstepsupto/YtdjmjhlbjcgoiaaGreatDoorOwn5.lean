/- Texts of the proof, one behind the other. -/
import Derived.Test.YtdjmjhlbjcgoiaaGreatDoorOwn4
import Derived.Test.YtdjmjhlbjcgoiaaGreatDoorOwn3
import Derived.Lib.ValidLaws
import Derived.Stop.FmtQuoteTie
import Derived.Laws.Runes
import Derived.Shelf.Abstract
set_option maxRecDepth 1000000
set_option maxHeartbeats 6400000
namespace Go.Proofs.YtdjmjhlbjcgoiaaGreatDoor
open Go.RowKit Go.Maps
def piece (f : Int → Option (List Int)) (c : Int) : List Int := if c < 0 then (f (-1 - c)).getD [c] else [c]
def layGo (f : Int → Option (List Int)) : List Int → List Int → Option (List Int)
 | a, [] => some a
 | a, c :: r => if 512 < a.length + (piece f c).length then none else layGo f (a ++ piece f c) r
def layE (f : Int → Option (List Int)) (t : List Int) : Int := if (layGo f [] t).isSome then 0 else 2
def layL (f : Int → Option (List Int)) (t : List Int) : List Int := (layGo f [] t).getD []
theorem nilI (w : World) (base : Nat) : OwI w base (.slice none 0 0) [] := ⟨fun k x hk => (by simp at hk), World.ownsRow_nil _ _ _ _⟩
theorem one_row {w : World} {g o cap : Nat} {c : Int} (h : w.cell? ⟨g, o, none⟩ = some (.int .i64 c)) (h1 : -9223372036854775808 ≤ c) (h2 : c ≤ 9223372036854775807) (h3 : 1 ≤ cap) (h4 : cap ≤ maxLen) : Is w (.slice (some ⟨g, o, none⟩) 1 cap) [c] := by
 refine ⟨some ⟨g, o, none⟩, cap, rfl, h3, h4, fun _ => ⟨g, o, rfl, yJ _ _ h, fun k x hk => ?_⟩⟩
 have hk0 : k = 0 := by
  have := (zB.1 hk).1
  simp at this
  omega
 subst hk0
 simp at hk
 subst hk
 exact ⟨h1, h2, by simpa using h⟩
section
variable {P : Program} {w w' : World} {ops : Array Oper} {rest : List Oper} {o : Oper} {a : Act} {Q : Exit → Act → World → Prop}
theorem xAL (hg : o.guard = none) (s x : Operand) (t : TypeId) (ho : o.op = .call { callee := .builtin .append, args := #[s, x], argTypes := #[t, t] }) (v u : Value) {v' : Value} (hs : a.eval s = v) (hx : a.eval x = u)
  (hr : (Builtin.append_ #[t, t] o.type #[v, u]).run P w = .ok v' w') (h : wpList P ops Q rest (a.put o.dst v') w') : wpList P ops Q (o :: rest) a w := by
 refine wpList_plain hg fun K' hK' => ?_
 unfold Oper.wp
 simp [execOp, ho, resolve, invoke, builtin, hs, hx, hr, Result.andThen]
 exact hK' _ _ h
end
theorem lay_any (f : Int → Option (List Int)) (g : FuncId) (cv v : Value) (t : List Int) (w : World) (h : Is w v t) (_hb : t.length * 8 ≤ 140737488351232)
  (hf : ∀ n u, f n = some u → u.length * 8 ≤ 140737488351232)
  (hcall : ∀ (n : Int) (W : World), 0 ≤ n → n ≤ 9223372036854775807 → Below w.heap.size w W → Calls Tryz.prog g #[.int .i64 n, cv] W fun e w' => ∃ u, e = .returned (.tuple #[u, .bool (f n).isSome]) ∧ (∀ x, f n = some x → Is w' u x) ∧ Below W.heap.size W w')
  (eg : ∀ args w, (callFunc g args).run Tryz.prog w = .ok (.enter g args) w) :
  Calls Tryz.prog 137 #[v, .func (.func g) #[] #[cv]] w fun e w' => ∃ v', e = .returned (.tuple #[v', .int .i64 (layE f t)]) ∧ OwI w' w.heap.size v' (layL f t) ∧ Below w.heap.size w w' := by
 obtain ⟨ao, cap, rfl, hao, hca, q0⟩ := Row.flat h
 unfold maxLen at hca
 have HT : Hid (Is w (.slice ao t.length cap) t) := h
 have HF := hid hf
 have HC := hid hcall
 clear h q0 hf hcall
 go_enter Tryz.func137, Tryz.ntmps137
 go_wp2
 go_loopw [6, 14] (fun x i wr => ∃ (k : Nat) (a : List Int), k ≤ t.length ∧ i = .int .i64 k ∧ layGo f [] t = layGo f a (t.drop k) ∧ a.length ≤ 512 ∧ OwI wr w.heap.size x a ∧ Below w.heap.size w wr) (fun _ i _ => t.length - (intOf i).toNat)
 case atStart => exact ⟨0, [], Nat.zero_le _, rfl, rfl, by simp, nilI _ _, Below.refl _ _⟩
 case round =>
  obtain ⟨k, a, hk, rfl, hgo, hal, how, hbl⟩ := hrel
  obtain ⟨bo, bc, rfl, hbc1, hbc2⟩ := how.shape
  unfold maxLen at hbc2
  have HG := hid hgo
  have HOr := hid how
  have HB := hid hbl
  clear hgo how
  by_cases hlt : k < t.length
  ·obtain ⟨ga, off, c, rfl, hx1, hx2, hx3, hx4⟩ := (HT.out.kp (zK hbl)).at hlt
   have HD : Hid (t.drop k = c :: t.drop (k + 1)) := xAR hx1
   have hone : Is wr (.slice (some ⟨ga, off + k, none⟩) 1 (cap - k)) [c] := one_row hx2 hx3 hx4 (by omega) (by unfold maxLen; omega)
   have HOne := hid hone
   clear hx1 hbl hone
   have hk1 : k ≤ k + 1 := by omega
   have hkc : k + 1 ≤ cap := by omega
   by_cases hc0 : c < 0
   ·have hwr : IntKind.i64.wrap (-1 - c) = -1 - c := yA _ ⟨by omega, by omega⟩
    have HCl := hid (HC.out (-1 - c) wr (by omega) (by omega) HB.out)
    go_wp2_with fail
    refine HCl.out.mono ?_
    rintro e w2 ⟨u, rfl, hu, hb2⟩
    have HBw : Hid (Below w.heap.size w w2) := zS HB.out hb2
    have HOw : Hid (OwI w2 w.heap.size (.slice bo a.length bc) a) := HOr.out.later hb2
    cases hfn : f (-1 - c) with
    | none =>
     have HPc : Hid (piece f c = [c]) := by show _ = _; unfold piece; rw [if_pos hc0, hfn]; rfl
     have HPi : Hid (Is w2 (.slice (some ⟨ga, off + k, none⟩) 1 (cap - k)) [c]) := HOne.out.kp (zK hb2)
     clear hu hfn hb2 HCl
     simp only [Option.isSome]
     by_cases hbig : 512 < a.length + 1
     ·have HE : Hid (layGo f [] t = none) := by show _ = _; rw [HG.out, HD.out, layGo, HPc.out]; exact if_pos hbig
      have hbigz : (512 : Int) < (a.length : Int) + 1 := by omega
      go_wp2
      go_ret2
      exact ⟨_, by unfold layE; rw [HE.out]; rfl, by unfold layL; rw [HE.out]; exact nilI _ _, HBw.out⟩
     ·obtain ⟨v4, w4, hr4, ho4, hg4⟩ := xEZ 30 HOw.out HPi.out HBw.out.size (by (try simp only [zG, List.length_nil]); omega)
      have HE : Hid (layGo f [] t = layGo f (a ++ [c]) (t.drop (k + 1))) := by show _ = _; rw [HG.out, HD.out, layGo, HPc.out]; exact if_neg hbig
      have HR4 := hid hr4
      have HO4 := hid ho4
      have HB4 : Hid (Below w.heap.size w w4) := HBw.out.grown hg4 HBw.out.size (fun j hj => own_blk HOw.out.2 hj)
      have hbigz : ¬ (512 : Int) < (a.length : Int) + 1 := by omega
      have hal2 : (a ++ [c]).length ≤ 512 := by rw [zF]; (try simp only [zG, List.length_nil]); omega
      clear hr4 ho4 hg4
      go_wp2_with (first
       | (at_builtin; refine xAL rfl _ _ _ rfl _ _ rfl rfl HR4.out ?_))
      go_roundw
      case rel => exact ⟨k + 1, a ++ [c], by omega, by go_num, HE.out, hal2, HO4.out, HB4.out⟩
      case measure => simp [intOf]; omega
    | some ps =>
     have HPc : Hid (piece f c = ps) := by show _ = _; unfold piece; rw [if_pos hc0, hfn]; rfl
     have hps := HF.out _ _ hfn
     have hpi := hu ps hfn
     obtain ⟨pa, pc, rfl, _⟩ := Row.flat hpi
     have HPi := hid hpi
     clear hu hfn hb2 HCl hpi
     simp only [Option.isSome]
     by_cases hbig : 512 < a.length + ps.length
     ·have HE : Hid (layGo f [] t = none) := by show _ = _; rw [HG.out, HD.out, layGo, HPc.out]; exact if_pos hbig
      have hbigz : (512 : Int) < (a.length : Int) + (ps.length : Int) := by omega
      go_wp2
      go_ret2
      exact ⟨_, by unfold layE; rw [HE.out]; rfl, by unfold layL; rw [HE.out]; exact nilI _ _, HBw.out⟩
     obtain ⟨v4, w4, hr4, ho4, hg4⟩ := xEZ 30 HOw.out HPi.out HBw.out.size (by (try simp only [zG, List.length_nil]); omega)
     have HE : Hid (layGo f [] t = layGo f (a ++ ps) (t.drop (k + 1))) := by show _ = _; rw [HG.out, HD.out, layGo, HPc.out]; exact if_neg hbig
     have HR4 := hid hr4
     have HO4 := hid ho4
     have HB4 : Hid (Below w.heap.size w w4) := HBw.out.grown hg4 HBw.out.size (fun j hj => own_blk HOw.out.2 hj)
     have hbigz : ¬ (512 : Int) < (a.length : Int) + (ps.length : Int) := by omega
     have hal2 : (a ++ ps).length ≤ 512 := by rw [zF]; (try simp only [zG, List.length_nil]); omega
     clear hr4 ho4 hg4
     go_wp2_with (first
      | (at_builtin; refine xAL rfl _ _ _ rfl _ _ rfl rfl HR4.out ?_))
     go_roundw
     case rel => exact ⟨k + 1, a ++ ps, by omega, by go_num, HE.out, hal2, HO4.out, HB4.out⟩
     case measure => simp [intOf]; omega
   have HPc : Hid (piece f c = [c]) := by show _ = _; unfold piece; rw [if_neg hc0]
   have HBw := HB
   have HOw := HOr
   have HPi := HOne
   by_cases hbig : 512 < a.length + 1
   ·have HE : Hid (layGo f [] t = none) := by show _ = _; rw [HG.out, HD.out, layGo, HPc.out]; exact if_pos hbig
    have hbigz : (512 : Int) < (a.length : Int) + 1 := by omega
    go_wp2
    go_ret2
    exact ⟨_, by unfold layE; rw [HE.out]; rfl, by unfold layL; rw [HE.out]; exact nilI _ _, HBw.out⟩
   obtain ⟨v4, w4, hr4, ho4, hg4⟩ := xEZ 30 HOw.out HPi.out HBw.out.size (by (try simp only [zG, List.length_nil]); omega)
   have HE : Hid (layGo f [] t = layGo f (a ++ [c]) (t.drop (k + 1))) := by show _ = _; rw [HG.out, HD.out, layGo, HPc.out]; exact if_neg hbig
   have HR4 := hid hr4
   have HO4 := hid ho4
   have HB4 : Hid (Below w.heap.size w w4) := HBw.out.grown hg4 HBw.out.size (fun j hj => own_blk HOw.out.2 hj)
   have hbigz : ¬ (512 : Int) < (a.length : Int) + 1 := by omega
   have hal2 : (a ++ [c]).length ≤ 512 := by rw [zF]; (try simp only [zG, List.length_nil]); omega
   clear hr4 ho4 hg4
   go_wp2_with (first
    | (at_builtin; refine xAL rfl _ _ _ rfl _ _ rfl rfl HR4.out ?_))
   go_roundw
   case rel => exact ⟨k + 1, a ++ [c], by omega, by go_num, HE.out, hal2, HO4.out, HB4.out⟩
   case measure => simp [intOf]; omega
  have HE : Hid (layGo f [] t = some a) := by show _ = _; rw [HG.out, zP (by omega)]; rfl
  go_wp2
  go_ret2
  exact ⟨_, by unfold layE; rw [HE.out]; rfl, by unfold layL; rw [HE.out]; exact HOr.out, HB.out⟩
def bnd (s : List Bd) (n : Int) : Option (List Int) := s.reverse.lookup n
theorem xDX {α : Type} : ∀ {l : List (Int × α)} {n : Int} {x : α}, l.lookup n = some x → (n, x) ∈ l
 | (k, v) :: l, n, x, h => by
  rw [List.lookup_cons] at h
  cases hk : n == k with
  | true =>
   rw [hk] at h
   cases h
   rw [beq_iff_eq] at hk
   subst hk
   exact .head _
  | false =>
   rw [hk] at h
   exact .tail _ (xDX h)
theorem bind_rise (sig : List Sy) : ∀ (s : List Bd) (p : Option Int), bindGo sig p s = 0 → (∀ y, p = some y → ∀ b ∈ s, y < b.1) ∧ s.Pairwise (fun a b => a.1 < b.1)
 | [], _, _ => ⟨fun _ _ b hb => (by cases hb), List.Pairwise.nil⟩
 | b :: r, p, h => by
  unfold bindGo at h
  split at h
  ·split at h
   ·cases h
   rename_i hp
   split at h
   ·obtain ⟨h1, h2⟩ := bind_rise sig r (some b.1) h
    have h1' := h1 b.1 rfl
    refine ⟨fun y hy c hc => ?_, List.Pairwise.cons h1' h2⟩
    subst hy
    have hyb : y < b.1 := by simpa using hp
    cases hc with
    | head => exact hyb
    | tail _ hc => have := h1' c hc; omega
   rename_i he
   exact absurd h he
  cases h
theorem bind_new {s : List Bd} (h : s.Pairwise (fun a b => a.1 < b.1)) {k : Nat} {x : Int} {t : List Int} (hk : s[k]? = some (x, t)) : (s.take k).reverse.lookup x = none := by
 cases hl : (s.take k).reverse.lookup x with
 | none => rfl
 | some u =>
  have hm := xDX hl
  rw [yZ] at hm
  obtain ⟨j, hj, he⟩ := List.getElem_of_mem hm
  rw [zH] at hj
  have hkl : k < s.length := (zB.1 hk).1
  have h2 := List.pairwise_iff_getElem.1 h j k (by omega) hkl (by omega)
  rw [List.getElem_take] at he
  rw [he, (zB.1 hk).2] at h2
  simp at h2
theorem Bs.small {w : World} {v : Value} {s : List Bd} (h : Bs w v s) {b : Bd} (hb : b ∈ s) : b.2.length * 8 ≤ 140737488351232 := by
 obtain ⟨ao, cap, rfl, _, _, hx⟩ := Row.flat h
 obtain ⟨k, hk, rfl⟩ := List.getElem_of_mem hb
 obtain ⟨g, off, x, _, hm, _, _, h3, _⟩ := hx k hk
 rw [zC hk] at hm
 cases hm
 exact h3
def applyE (sig : List Sy) (s : List Bd) (t : List Int) : Int := if bindE sig s = 0 then (if termE sig t = 0 then layE (bnd s) t else termE sig t) else bindE sig s
def applyL (sig : List Sy) (s : List Bd) (t : List Int) : List Int := if bindE sig s = 0 then (if termE sig t = 0 then layL (bnd s) t else []) else []
theorem apply_any (sv bv v : Value) (sig : List Sy) (s : List Bd) (t : List Int) (w : World) (hs : Sg w sv sig) (hB : Bs w bv s) (h : Is w v t) (hT : Tabs w) (hb : t.length * 8 ≤ 140737488351232) :
  Calls Tryz.prog 80 #[sv, bv, v] w fun e w' => ∃ v', e = .returned (.tuple #[v', .int .i64 (applyE sig s t)]) ∧ OwI w' w.heap.size v' (applyL sig s t) ∧ Below w.heap.size w w' := by
 have HS := hid hs
 have HBs := hid hB
 have HI := hid h
 have HT := hid hT
 clear hs hB h hT
 go_enter Tryz.func80, Tryz.ntmps80
 go_wp2_with fail
 refine (substCheck_any sv bv sig s w HS.out HBs.out HT.out).mono ?_
 rintro e w1 ⟨rfl, hb1⟩
 have HB1 := hid hb1
 clear hb1
 by_cases he : bindE sig s = 0
 ·rw [he]
  go_wp2_with fail
  refine (xBP sv v sig t w1 (HS.out.kp (zK HB1.out)) (HI.out.kp (zK HB1.out)) (HT.out.below HB1.out) hb).mono ?_
  rintro e w2 ⟨rfl, hb2⟩
  have HB2 : Hid (Below w.heap.size w w2) := zS HB1.out hb2
  clear hb2
  by_cases hte : termE sig t = 0
  ·rw [hte]
   have HE : Hid (applyE sig s t = layE (bnd s) t) := by show _ = _; unfold applyE; rw [if_pos he, if_pos hte]
   have HL : Hid (applyL sig s t = layL (bnd s) t) := by show _ = _; unfold applyL; rw [if_pos he, if_pos hte]
   have HNew : Hid (∀ k x t, s[k]? = some (x, t) → (s.take k).reverse.lookup x = none) := fun k x t hk => bind_new (bind_rise sig s none (by
    unfold bindE at he
    split at he
    ·exact he
    rename_i h0; exact absurd he h0)).2 hk
   clear he hte
   go_wp2_with fail
   refine (boundTerms_any bv s w2 (HBs.out.kp (zK HB2.out)) HNew.out).mono ?_
   rintro e w3 ⟨b, bx, L, rfl, hc, hm, hte, hb3⟩
   have HB3 : Hid (Below w.heap.size w w3) := zS HB2.out hb3
   have HLay := hid (lay_any (bnd s) 171 (.pointer (some ⟨bx, 0, none⟩)) v t w3 (HI.out.kp (zK HB3.out)) hb (fun n u hn => HBs.out.small (yZ.1 (xDX hn)))
    (fun n W h0 h1 hW => (bound_closure n b bx L W ((zK hW).cell _ _ hc) (hm.later hW) (by omega) h1).mono (fun e w4 he => by
     obtain ⟨rfl, rfl⟩ := he
     obtain ⟨k1, k2⟩ := (hte.kp (zK hW)).look n
     refine ⟨(L.lookup n).getD (.slice none 0 0), ?_, fun x hx => ?_, Below.refl _ _⟩
     ·cases hbn : bnd s n with
      | none => rw [k2 hbn]; rfl
      | some x => obtain ⟨y, hy, _⟩ := k1 x hbn; rw [hy]; rfl
     obtain ⟨y, hy, hi⟩ := k1 x hx
     rw [hy]
     exact hi))
    (enters_of Tryz.func171 (by kernel_rfl) rfl))
   clear hc hm hte hb3
   go_wp2_with fail
   refine HLay.out.mono ?_
   rintro e w4 ⟨v', rfl, ho, hb4⟩
   have HO : Hid (OwI w4 w.heap.size v' (layL (bnd s) t)) := ho.mono HB3.out.size
   have HB4 : Hid (Below w.heap.size w w4) := zS HB3.out hb4
   clear ho hb4 HLay
   go_wp2
   go_ret2
   exact ⟨_, by rw [HE.out]; rfl, by rw [HL.out]; exact HO.out, HB4.out⟩
  have HE : Hid (applyE sig s t = termE sig t) := by show _ = _; unfold applyE; rw [if_pos he, if_neg hte]
  have HL : Hid (applyL sig s t = []) := by show _ = _; unfold applyL; rw [if_pos he, if_neg hte]
  clear he
  generalize termE sig t = E at hte HE ⊢
  have heb : (E != 0) = true := by simpa using hte
  go_wp2
  go_ret2
  exact ⟨_, by rw [HE.out]; rfl, by rw [HL.out]; exact nilI _ _, HB2.out⟩
 have HE : Hid (applyE sig s t = bindE sig s) := by show _ = _; unfold applyE; rw [if_neg he]
 have HL : Hid (applyL sig s t = []) := by show _ = _; unfold applyL; rw [if_neg he]
 generalize bindE sig s = E at he HE ⊢
 have heb : (E != 0) = true := by simpa using he
 go_wp2
 go_ret2
 exact ⟨_, by rw [HE.out]; rfl, by rw [HL.out]; exact nilI _ _, HB1.out⟩
def laidL (f : Int → Option (List Int)) (t : List Int) : List Int := t.flatMap (piece f)
theorem layGo_eq (f : Int → Option (List Int)) : ∀ (t a : List Int), a.length ≤ 512 → layGo f a t = if 512 < a.length + (laidL f t).length then none else some (a ++ laidL f t)
 | [], a, h => by
  unfold layGo laidL
  rw [List.flatMap_nil, zV, if_neg (by simp; omega)]
 | c :: t, a, h => by
  unfold layGo
  have hl : (laidL f (c :: t)).length = (piece f c).length + (laidL f t).length := by unfold laidL; rw [List.flatMap_cons, zF]
  by_cases h5 : 512 < a.length + (piece f c).length
  ·rw [if_pos h5, if_pos (by omega)]
  rw [if_neg h5, layGo_eq f t (a ++ piece f c) (by rw [zF]; omega), zF]
  by_cases h6 : 512 < a.length + (piece f c).length + (laidL f t).length
  ·rw [if_pos h6, if_pos (by omega)]
  rw [if_neg h6, if_neg (by omega)]
  unfold laidL
  rw [List.flatMap_cons, zR]
theorem lay_eq (f : Int → Option (List Int)) (t : List Int) : layE f t = (if 512 < (laidL f t).length then 2 else 0) ∧ layL f t = if 512 < (laidL f t).length then [] else laidL f t := by
 unfold layE layL
 rw [layGo_eq f t [] (by simp)]
 rw [List.length_nil, Nat.zero_add, yH]
 by_cases h : 512 < (laidL f t).length
 ·rw [if_pos h, if_pos h, if_pos h]
  exact ⟨rfl, rfl⟩
 rw [if_neg h, if_neg h, if_neg h]
 exact ⟨rfl, rfl⟩
end Go.Proofs.YtdjmjhlbjcgoiaaGreatDoor
namespace Go.Proofs.YtdjmjhlbjcgoiaaGreatDoor
open Go.RowKit Go.Maps Go.Lib
def encGo : Nat → List UInt8 → List UInt8
 | 0, _ => []
 | n + 1, l => if l = [] then [] else (Utf8.encode ((decodeL l).1 : Int)).data.toList ++ encGo n (l.drop (decodeL l).2)
theorem enc_bytes (r : Nat) : (Utf8.encode (r : Int)).data.toList = encodeRune (r : Int) := by
 have h := Go.Extern.FmtText.encode_eq r
 unfold encodeRune
 rw [← h]
 have e : (fun x : Int => x.toNat.toUInt8) ∘ (fun x : UInt8 => (x.toNat : Int)) = id := by funext x; simp
 unfold Go.Extern.FmtText.nums
 rw [List.map_map, e, List.map_id]
theorem encGo_valid : ∀ (n : Nat) (l : List UInt8), l.length ≤ n → (encGo n l = l ↔ validD l = true)
 | 0, l, h => by
  obtain rfl : l = [] := zE (by omega)
  exact ⟨fun _ => rfl, fun _ => rfl⟩
 | n + 1, l, h => by
  by_cases h0 : l = []
  ·subst h0
   exact ⟨fun _ => rfl, fun _ => by simp [encGo]⟩
  have hw := decodeL_width l
  have hl : 0 < l.length := List.length_pos_iff.2 h0
  rw [validD_step l h0, encGo, if_neg h0]
  by_cases hb : (decodeL l).1 = 65533 ∧ (decodeL l).2 = 1
  ·rw [if_pos hb]
   refine ⟨fun e => ?_, fun e => by cases e⟩
   exfalso
   rw [hb.1, show (Utf8.encode ((65533 : Nat) : Int)).data.toList = [239, 191, 189] by rfl] at e
   have e2 := hb.2
   rw [← e, decodeL_N] at e2
   simp [decodeN] at e2
  rw [if_neg hb, enc_bytes, encode_decode l h0 hb]
  rw [← encGo_valid n (l.drop (decodeL l).2) (by rw [zI]; omega)]
  refine ⟨fun e => ?_, fun e => ?_⟩
  ·refine (List.append_right_inj (l.take (decodeL l).2)).1 ?_
   rw [e, zQ]
  rw [e, zQ]
theorem rune_bytes (s : ByteArray) (pos j : Nat) (h1 : 1 ≤ j) (h2 : j < (Utf8.decode s pos).2) : 128 ≤ (s.data.toList.getD (pos + j) 0).toNat := by
 rw [decode_N] at h2
 rcases decodeN_shape (s.data.toList.length - pos) (s.data.toList.getD pos 0).toNat (s.data.toList.getD (pos + 1) 0).toNat (s.data.toList.getD (pos + 2) 0).toNat (s.data.toList.getD (pos + 3) 0).toNat with ⟨c, e⟩ | ⟨c1, c2, c3, cv, e⟩ | ⟨c1, c2, c3, c4, cv, cs, e⟩ | ⟨c1, c2, c3, c4, c5, cv, cw, e⟩ | e
 ·rw [e] at h2; simp only at h2; omega
 ·rw [e] at h2; simp only at h2
  obtain rfl : j = 1 := by omega
  omega
 ·rw [e] at h2; simp only at h2
  have hj : j = 1 ∨ j = 2 := by omega
  rcases hj with rfl | rfl <;> omega
 ·rw [e] at h2; simp only at h2
  have hj : j = 1 ∨ j = 2 ∨ j = 3 := by omega
  rcases hj with rfl | rfl | rfl <;> omega
 rw [e] at h2; simp only at h2; omega
theorem nm_hash (s : ByteArray) (hl : s.data.toList.getD (s.size - 1) 0 = 35) : ∀ (b pos : Nat), pos < s.size → s.size ≤ pos + b → nmGo s b pos = false
 | 0, pos, h1, h2 => by omega
 | b + 1, pos, h1, h2 => by
  rw [nmGo, if_pos h1]
  have hw := Lib.width_pos s pos
  by_cases h3 : pos + (Utf8.decode s pos).2 < s.size
  ·rw [nm_hash s hl b _ h3 (by omega), Bool.and_false]
  have hp : pos = s.size - 1 := by
   by_cases h4 : pos = s.size - 1
   ·exact h4
   exfalso
   have := rune_bytes s pos (s.size - 1 - pos) (by omega) (by omega)
   rw [show pos + (s.size - 1 - pos) = s.size - 1 by omega, hl] at this
   simp at this
  have hd : (Utf8.decode s pos).1 = 35 := by
   rw [decode_N, hp, hl]
   simp [decodeN]
  rw [hd]
  simp [letB, folB]
def init1 (s : ByteArray) : ByteArray := s.extract 0 (s.size - 1)
def lastB (s : ByteArray) : UInt8 := s.data.toList.getD (s.size - 1) 0
def markB (s : ByteArray) : Bool := decide (0 < s.size) && (decide (lastB s = 35) && nameB (validD (init1 s).data.toList) (init1 s))
theorem bare_hash (s : ByteArray) (h0 : 0 < s.size) (h : lastB s = 35) : bare s = init1 s := by
 have hl : s.data.toList.length = s.size := (size_eq s).symm
 have hx : s.data.toList.drop (s.size - 1) = [35] := by
  unfold lastB at h
  rw [List.drop_eq_getElem_cons (by omega), zP (by omega)]
  rw [List.getD_eq_getElem?_getD, zC (by omega), Option.getD_some] at h
  rw [h]
 have hs : hasSuffix s.data.toList "#".toUTF8.data.toList = true := by
  show hasSuffix s.data.toList [35] = true
  unfold hasSuffix
  rw [List.isSuffixOf_iff_suffix]
  exact ⟨s.data.toList.take (s.size - 1), by rw [← hx, zQ]⟩
 unfold bare init1 trimSuffix
 rw [if_pos hs]
 apply ByteArray.ext
 apply Array.ext'
 show s.data.toList.take (s.data.toList.length - 1) = (s.extract 0 (s.size - 1)).data.toList
 rw [ByteArray.data_extract, Array.toList_extract, hl]
 simp
theorem bare_plain (s : ByteArray) (h : ¬ (0 < s.size ∧ lastB s = 35)) : bare s = s := by
 have hl : s.data.toList.length = s.size := (size_eq s).symm
 have hs : ¬ hasSuffix s.data.toList "#".toUTF8.data.toList = true := by
  show ¬ hasSuffix s.data.toList [35] = true
  unfold hasSuffix
  rw [List.isSuffixOf_iff_suffix]
  rintro ⟨l, e⟩
  have hn := congrArg List.length e
  simp only [zF, zG, List.length_nil] at hn
  refine h ⟨by omega, ?_⟩
  unfold lastB
  rw [← e, show s.size - 1 = l.length by omega]
  simp
 unfold bare trimSuffix
 rw [if_neg hs]
theorem sym_ref (s : ByteArray) : symB s = (nameB (validD s.data.toList) s || markB s) := by
 unfold symB markB
 by_cases h : 0 < s.size ∧ lastB s = 35
 ·have hn : nameB (validD s.data.toList) s = false := by
   unfold nameB
   rw [nm_hash s h.2 s.size 0 h.1 (by omega)]
   simp
  rw [hn, bare_hash s h.1 h.2, decide_eq_true h.1, decide_eq_true h.2]
  simp
 rw [bare_plain s h]
 by_cases h0 : 0 < s.size
 ·rw [decide_eq_false (fun h1 => h ⟨h0, h1⟩)]
  simp
 rw [decide_eq_false h0]
 simp
theorem refLetter_any (r : Int) (w : World) : Calls Tryz.prog 145 #[.int .i32 r] w fun e w' => e = .returned (.bool (letB r)) ∧ w' = w := by
 obtain ⟨B, hB⟩ : ∃ B, B = letB r := ⟨_, rfl⟩
 rw [← hB]
 have HB : Hid (B = letB r) := hB
 clear hB
 go_enter Tryz.func145, Tryz.ntmps145
 by_cases h1 : 97 ≤ r
 ·by_cases h2 : r ≤ 122
  ·have HF : Hid (B = true) := by show _ = _; rw [HB.out]; unfold letB; simp [h1, h2]
   clear HB
   go_wp2
   go_ret
   exact ⟨ret1b HF.out.symm, rfl⟩
  have HF : Hid (B = decide (128 ≤ r)) := by show _ = _; rw [HB.out]; unfold letB; rw [decide_eq_false h2, decide_eq_false (show ¬ r ≤ 90 by omega)]; simp
  clear HB
  have h3 : 65 ≤ r := by omega
  have h4 : ¬ r ≤ 90 := by omega
  go_wp2
  go_ret
  exact ⟨ret1b HF.out.symm, rfl⟩
 by_cases h3 : 65 ≤ r
 ·by_cases h4 : r ≤ 90
  ·have HF : Hid (B = true) := by show _ = _; rw [HB.out]; unfold letB; simp [h3, h4]
   clear HB
   go_wp2
   go_ret
   exact ⟨ret1b HF.out.symm, rfl⟩
  have HF : Hid (B = decide (128 ≤ r)) := by show _ = _; rw [HB.out]; unfold letB; rw [decide_eq_false h1, decide_eq_false h4]; simp
  clear HB
  go_wp2
  go_ret
  exact ⟨ret1b HF.out.symm, rfl⟩
 have HF : Hid (B = decide (128 ≤ r)) := by show _ = _; rw [HB.out]; unfold letB; rw [decide_eq_false h1, decide_eq_false h3]; simp
 clear HB
 go_wp2
 go_ret
 exact ⟨ret1b HF.out.symm, rfl⟩
def morB (r : Int) : Bool := letB r || folB r
theorem refMore_any (r : Int) (w : World) : Calls Tryz.prog 146 #[.int .i32 r] w fun e w' => e = .returned (.bool (morB r)) ∧ w' = w := by
 obtain ⟨B, hB⟩ : ∃ B, B = morB r := ⟨_, rfl⟩
 rw [← hB]
 have HB : Hid (B = morB r) := hB
 clear hB
 go_enter Tryz.func146, Tryz.ntmps146
 go_wp2_with fail
 refine (refLetter_any r w).mono ?_
 rintro e w9 ⟨rfl, hw9⟩
 have hw8 := hw9.symm
 subst hw8
 clear hw9
 cases hL : letB r
 ·have HF : Hid (B = folB r) := by show _ = _; rw [HB.out]; unfold morB; rw [hL]; rfl
  clear HB hL
  by_cases h1 : 48 ≤ r
  ·by_cases h2 : r ≤ 57
   ·have HG : Hid (B = true) := by show _ = _; rw [HF.out]; unfold folB; simp [h1, h2]
    clear HF
    go_wp2
    go_ret
    exact ⟨ret1b HG.out.symm, rfl⟩
   by_cases h3 : r = 95
   ·have HG : Hid (B = true) := by show _ = _; rw [HF.out]; unfold folB; simp [h3]
    have h3b : (r == 95) = true := by rw [beq_iff_eq]; exact h3
    clear HF
    go_wp2
    go_ret
    exact ⟨ret1b HG.out.symm, rfl⟩
   have HG : Hid (B = decide (r = 39)) := by show _ = _; rw [HF.out]; unfold folB; rw [decide_eq_false h2, decide_eq_false h3]; simp
   have h3b : (r == 95) = false := by rw [zY]; exact h3
   clear HF
   go_wp2
   go_ret
   exact ⟨ret1b (by rw [HG.out, decide_eq_false (show ¬ r ≤ 57 by omega)]; rfl), rfl⟩
  by_cases h3 : r = 95
  ·omega
  have HG : Hid (B = decide (r = 39)) := by show _ = _; rw [HF.out]; unfold folB; rw [decide_eq_false h1, decide_eq_false h3]; simp
  have h3b : (r == 95) = false := by rw [zY]; exact h3
  clear HF
  go_wp2
  go_ret
  exact ⟨ret1b (by rw [HG.out]; rfl), rfl⟩
 have HF : Hid (B = true) := by show _ = _; rw [HB.out]; unfold morB; rw [hL]; rfl
 clear HB hL
 go_wp2
 go_ret
 exact ⟨ret1b HF.out.symm, rfl⟩
theorem encGo_nil (n : Nat) : encGo n [] = [] := by cases n <;> simp [encGo]
theorem encGo_more (s : ByteArray) (b pos : Nat) (h : pos < s.size) : encGo (b + 1) (s.data.toList.drop pos) = (Utf8.encode ((Utf8.decode s pos).1 : Int)).data.toList ++ encGo b (s.data.toList.drop (pos + (Utf8.decode s pos).2)) := by
 have hne : s.data.toList.drop pos ≠ [] := by
  intro h0
  have := congrArg List.length h0
  rw [zI, ← Go.Lib.size_eq] at this
  simp at this
  omega
 rw [encGo, if_neg hne, decodeL_drop, yS]
theorem refGood_any (s : ByteArray) (w : World) (hs : s.size ≤ 32) :
  Calls Tryz.prog 144 #[.string s] w fun e w' => e = .returned (.bool (validD s.data.toList)) ∧ Below w.heap.size w w' := by
 go_enter Tryz.func144, Tryz.ntmps144
 go_wp2
 go_loopw [3] (fun x w' => ∃ (pos b : Nat) (acc : ByteArray), x = .string acc ∧ w' = w.iter s pos ∧ encGo s.size s.data.toList = acc.data.toList ++ encGo b (s.data.toList.drop pos) ∧ s.size ≤ pos + b ∧ acc.size ≤ 4 * pos) (fun _ w' => s.size - w'.iterPos w.heap.size)
 case atStart => exact ⟨0, s.size, ByteArray.empty, rfl, rfl, by simp, by omega, by simp⟩
 case round =>
  obtain ⟨pos, b, acc, rfl, rfl, hc, hb, hz⟩ := hrel
  have HC := hid hc
  clear hc
  by_cases hp : pos < s.size
  ·have hnx : ∀ ty, (Instr.next (.pointer (some ⟨w.heap.size, 0, none⟩)) true ty).run Tryz.prog (w.iter s pos) = _ := fun ty => run_next_any w s pos ty hp
   have hwd := Lib.width_pos s pos
   obtain ⟨b', rfl⟩ : ∃ b', b = b' + 1 := ⟨b - 1, by omega⟩
   have hstep := encGo_more s b' pos hp
   obtain ⟨r, hr⟩ : ∃ r : Nat, r = (Utf8.decode s pos).1 := ⟨_, rfl⟩
   obtain ⟨wd, hwd2⟩ : ∃ wd : Nat, wd = (Utf8.decode s pos).2 := ⟨_, rfl⟩
   rw [← hr, ← hwd2] at hstep hnx
   rw [← hwd2] at hwd
   obtain ⟨E, hE⟩ : ∃ E : ByteArray, E = Utf8.encode (r : Int) := ⟨_, rfl⟩
   have hcv : ∀ W : World, (convert 21 9 (.int .i32 (r : Int))).run Tryz.prog W = .ok (.string E) W := fun W => by rw [hE]; exact run_convert_int_string W 21 9 .i32 r (by kernel_rfl) (by kernel_rfl)
   rw [← hE] at hstep
   have HS : Hid (encGo s.size s.data.toList = (acc ++ E).data.toList ++ encGo b' (s.data.toList.drop (pos + wd))) := by
    show _ = _
    rw [HC.out, hstep, ByteArray.data_append, Array.toList_append, zR]
   have HZ : Hid ((acc ++ E).size ≤ 4 * (pos + wd)) := by
    have h4 := encode_size_le (r : Int)
    rw [← hE] at h4
    show _ ≤ _
    rw [ByteArray.size_append]
    omega
   have HFi : Hid (s.size ≤ pos + wd + b') := by show _ ≤ _; omega
   have hE4 : E.size ≤ 4 := by rw [hE]; exact encode_size_le (r : Int)
   have hAE : ¬ 9223372036854775807 < acc.size + E.size := by omega
   clear hr hwd2 hstep HC hE
   go_wp2
   go_roundw
   case rel => exact ⟨pos + wd, b', _, rfl, rfl, HS.out, HFi.out, HZ.out⟩
   case measure => simp; omega
  have HE : Hid (∀ B, (acc.data.toList = s.data.toList ↔ B = true) → B = validD s.data.toList) := fun B h => by
   have h1 := HC.out
   rw [zP (by rw [← Go.Lib.size_eq]; omega), encGo_nil, zV] at h1
   have h2 := encGo_valid s.size s.data.toList (by rw [← Go.Lib.size_eq]; omega)
   rw [h1] at h2
   rw [Bool.eq_iff_iff, ← h, h2]
  have hnx : ∀ ty, (Instr.next (.pointer (some ⟨w.heap.size, 0, none⟩)) true ty).run Tryz.prog (w.iter s pos) = _ := fun ty => run_next_end w s pos ty hp
  clear HC
  go_wp2
  go_ret
  refine ⟨ret1b (HE.out _ ?_), xCM _ _ _⟩
  simp [ByteArray.toList_eq]
theorem refName_of (B : Bool) (s : ByteArray) (w : World) (hs : s.size ≤ 9223372036854775807) (hG : s.size ≤ 32 → Calls Tryz.prog 144 #[.string s] w fun e w' => e = .returned (.bool B) ∧ Below w.heap.size w w') :
  Calls Tryz.prog 89 #[.string s] w fun e w' => e = .returned (.bool (nameB B s)) ∧ Below w.heap.size w w' := by
 have HGo := hid hG
 clear hG
 go_enter Tryz.func89, Tryz.ntmps89
 by_cases h0 : s.size = 0
 ·have he : s.toList.isEmpty = true := by
   have hl : s.toList.length = 0 := by rw [← h0]; simp [ByteArray.toList_eq]
   rw [List.length_eq_zero_iff.mp hl]; rfl
  have HF : Hid (nameB B s = false) := by show _ = _; unfold nameB; rw [decide_eq_true h0]; rfl
  go_wp2
  go_ret
  exact ⟨ret1b HF.out.symm, Below.refl _ _⟩
 have he : s.toList.isEmpty = false := by
  cases hl : s.toList with
  | nil => exact absurd (by have := congrArg List.length hl; simpa [ByteArray.toList_eq] using this) h0
  | cons a l => rfl
 by_cases h32 : 32 < s.size
 ·have HF : Hid (nameB B s = false) := by show _ = _; unfold nameB; rw [decide_eq_true h32]; simp
  go_wp2
  go_ret
  exact ⟨ret1b HF.out.symm, Below.refl _ _⟩
 go_wp2_with fail
 refine (HGo.out (by omega)).mono ?_
 rintro e w1 ⟨rfl, hb1⟩
 have HB1 : Hid (Below w.heap.size w w1) := hb1
 clear hb1
 cases B
 ·have HF : Hid (nameB false s = false) := by show _ = _; unfold nameB; simp
  go_wp2
  go_ret
  exact ⟨ret1b HF.out.symm, HB1.out⟩
 have HF : Hid (nameB true s = nmGo s s.size 0) := by show _ = _; unfold nameB; rw [decide_eq_false h0, decide_eq_false h32]; rfl
 go_wp2
 go_loopw [] (fun w' => ∃ (pos b : Nat), w' = w1.iter s pos ∧ nmGo s s.size 0 = nmGo s b pos ∧ s.size ≤ pos + b) (fun w' => s.size - w'.iterPos w1.heap.size)
 case atStart => exact ⟨0, s.size, rfl, rfl, by omega⟩
 case round =>
  obtain ⟨pos, b, rfl, hc, hb⟩ := hrel
  have HC : Hid (nmGo s s.size 0 = nmGo s b pos) := hc
  clear hc
  by_cases hp : pos < s.size
  ·have hnx0 := fun ty => run_next_any (P := Tryz.prog) w1 s pos ty hp
   have hwd := Go.Lib.width_pos s pos
   obtain ⟨b', rfl⟩ : ∃ b', b = b' + 1 := ⟨b - 1, by omega⟩
   obtain ⟨r, hr⟩ : ∃ r : Nat, r = (Utf8.decode s pos).1 := ⟨_, rfl⟩
   obtain ⟨wd, hwd2⟩ : ∃ wd : Nat, wd = (Utf8.decode s pos).2 := ⟨_, rfl⟩
   obtain ⟨q, hq⟩ : ∃ q : Nat, q = pos + wd := ⟨_, rfl⟩
   have HS : Hid (nmGo s s.size 0 = ((letB (r : Int) || (!decide (pos = 0) && folB (r : Int))) && nmGo s b' q)) := by
    show _ = _
    rw [HC.out, nmGo, if_pos hp, ← hr, ← hwd2, ← hq]
   rw [← hwd2] at hwd
   have HFi : Hid (s.size ≤ q + b') := by show _ ≤ _; omega
   have hqp : pos < q := by omega
   rw [← hr, ← hwd2, ← hq] at hnx0
   have HNx := hid hnx0
   clear hr hwd2 hq HC hnx0
   by_cases hp0 : pos = 0
   ·subst hp0
    have hnx : ∀ ty, (Instr.next (.pointer (some ⟨w1.heap.size, 0, none⟩)) true ty).run Tryz.prog (w1.iter s 0) = _ := HNx.out
    go_wp2_with fail
    refine (refLetter_any (r : Int) _).mono ?_
    rintro e w9 ⟨rfl, hw9⟩
    have hw8 := hw9.symm
    subst hw8
    clear hw9 hnx
    cases hL : letB (r : Int)
    ·have HFF : Hid (nameB true s = false) := by show _ = _; rw [HF.out, HS.out, hL]; rfl
     go_wp2
     go_ret
     exact ⟨ret1b HFF.out.symm, zS HB1.out (xCM _ _ _)⟩
    have HN : Hid (nmGo s s.size 0 = nmGo s b' q) := by show _ = _; rw [HS.out, hL]; rfl
    have HMo : Hid (morB (r : Int) = true) := by show _ = _; unfold morB; rw [hL]; rfl
    go_wp2_with fail
    refine (refMore_any (r : Int) _).mono ?_
    rintro e w9 ⟨rfl, hw9⟩
    have hw8 := hw9.symm
    subst hw8
    clear hw9
    rw [HMo.out]
    go_wp2
    go_roundw
    case rel => exact ⟨q, b', rfl, HN.out, HFi.out⟩
    case measure => simp; omega
   have hp0b : ((pos : Int) == 0) = false := by rw [zY]; omega
   have hnx : ∀ ty, (Instr.next (.pointer (some ⟨w1.heap.size, 0, none⟩)) true ty).run Tryz.prog (w1.iter s pos) = _ := HNx.out
   go_wp2_with fail
   refine (refMore_any (r : Int) _).mono ?_
   rintro e w9 ⟨rfl, hw9⟩
   have hw8 := hw9.symm
   subst hw8
   clear hw9 hnx
   have HS2 : Hid (nmGo s s.size 0 = (morB (r : Int) && nmGo s b' q)) := by show _ = _; rw [HS.out, decide_eq_false hp0]; rfl
   cases hM : morB (r : Int)
   ·have HFF : Hid (nameB true s = false) := by show _ = _; rw [HF.out, HS2.out, hM]; rfl
    go_wp2
    go_ret
    exact ⟨ret1b HFF.out.symm, zS HB1.out (xCM _ _ _)⟩
   have HN : Hid (nmGo s s.size 0 = nmGo s b' q) := by show _ = _; rw [HS2.out, hM]; rfl
   go_wp2
   go_roundw
   case rel => exact ⟨q, b', rfl, HN.out, HFi.out⟩
   case measure => simp; omega
  have HFF : Hid (nameB true s = true) := by show _ = _; rw [HF.out, HC.out, nmGo_end s b pos hp]
  have hnx : ∀ ty, (Instr.next (.pointer (some ⟨w1.heap.size, 0, none⟩)) true ty).run Tryz.prog (w1.iter s pos) = _ := fun ty => run_next_end w1 s pos ty hp
  go_wp2
  go_ret
  exact ⟨ret1b HFF.out.symm, zS HB1.out (xCM _ _ _)⟩
theorem refName_any (s : ByteArray) (w : World) (hs : s.size ≤ 9223372036854775807) :
  Calls Tryz.prog 89 #[.string s] w fun e w' => e = .returned (.bool (nameB (validD s.data.toList) s)) ∧ Below w.heap.size w w' := refName_of _ s w hs fun h => refGood_any s w h
theorem refMarked_any (s : ByteArray) (w : World) (hs : s.size ≤ 9223372036854775807) :
  Calls Tryz.prog 90 #[.string s] w fun e w' => e = .returned (.bool (markB s)) ∧ Below w.heap.size w w' := by
 go_enter Tryz.func90, Tryz.ntmps90
 by_cases h0 : s.size = 0
 ·have HF : Hid (markB s = false) := by show _ = _; unfold markB; rw [decide_eq_false (by omega)]; rfl
  go_wp2
  go_ret
  exact ⟨ret1b HF.out.symm, Below.refl _ _⟩
 have h1 : 0 < s.size := by omega
 have hlast : lastB s = s[s.size - 1]'(by omega) := by
  unfold lastB
  rw [List.getD_eq_getElem?_getD, zC (by rw [← Go.Lib.size_eq]; omega), Option.getD_some]
  rfl
 by_cases hc : lastB s = 35
 ·have HF : Hid (markB s = nameB (validD (init1 s).data.toList) (init1 s)) := by show _ = _; unfold markB; rw [decide_eq_true h1, decide_eq_true hc]; rfl
  have hz : ((s[s.size - 1]'(by omega)).toNat : Int) = 35 := by rw [← hlast, hc]; rfl
  have hsz : (init1 s).size ≤ 9223372036854775807 := by unfold init1; rw [ByteArray.size_extract]; omega
  have HC := hid (refName_any (init1 s) w hsz)
  generalize nameB (validD (init1 s).data.toList) (init1 s) = B at HF HC
  rw [show init1 s = s.extract 0 (s.size - 1) from rfl] at HC
  clear hlast hc hsz
  go_wp2_with fail
  refine HC.out.mono ?_
  rintro e w1 ⟨rfl, hb1⟩
  go_wp2
  go_ret
  exact ⟨ret1b HF.out.symm, hb1⟩
 have HF : Hid (markB s = false) := by show _ = _; unfold markB; rw [decide_eq_false hc]; simp
 have hz : ¬ ((s[s.size - 1]'(by omega)).toNat : Int) = 35 := fun h => hc (by
  rw [hlast]
  apply UInt8.toNat_inj.1
  show _ = 35
  omega)
 clear hlast hc
 go_wp2
 go_ret
 exact ⟨ret1b HF.out.symm, Below.refl _ _⟩
end Go.Proofs.YtdjmjhlbjcgoiaaGreatDoor
namespace Go.Proofs.YtdjmjhlbjcgoiaaGreatDoor
open Go.RowKit Go.Maps Go.BigFrame
theorem xEV (sv : Value) (sig : List Sy) (w : World) (hs : Sg w sv sig) :
  Calls Tryz.prog 41 #[sv] w fun e w' => e = .returned (.int .i64 (sigE sig)) ∧ Below w.heap.size w w' := by
 obtain ⟨so, sc, rfl, hso, hsc, _⟩ := Row.flat hs
 unfold maxLen at hsc
 have HS : Hid (Sg w (.slice so sig.length sc) sig) := hs
 clear hs
 go_enter Tryz.func41, Tryz.ntmps41
 by_cases h128 : 128 < sig.length
 ·have HR : Hid (sigE sig = 37) := by show _ = _; unfold sigE; rw [if_pos h128]
  go_wp2
  go_ret
  exact ⟨ret1i HR.out.symm, Below.refl _ _⟩
 have HR : Hid (sigE sig = sigGo sig 0 sig) := by show _ = _; unfold sigE; rw [if_neg h128]
 go_wp2
 go_loopw [3] (fun i wr => ∃ k : Nat, k ≤ sig.length ∧ i = .int .i64 k ∧ sigGo sig 0 sig = sigGo sig k (sig.drop k) ∧ Below w.heap.size w wr) (fun i _ => sig.length - (intOf i).toNat)
 case atStart => exact ⟨0, Nat.zero_le _, rfl, rfl, Below.refl _ _⟩
 case round =>
  obtain ⟨k, hk, rfl, hgo, hbl⟩ := hrel
  have HG : Hid (sigGo sig 0 sig = sigGo sig k (sig.drop k)) := hgo
  clear hgo
  by_cases hlt : k < sig.length
  ·have HSr : Hid (Sg wr (.slice so sig.length sc) sig) := HS.out.kp (zK hbl)
   obtain ⟨g, off, s, a, rfl, hm, hc0, hc1, ha1, ha2, hs3⟩ := HSr.out.at hlt
   have HM := hid hm
   have HD : Hid (sigE sig = if symB s then (if a < 0 ∨ 8 < a then 35 else if hasB (sig.take k) s then 36 else sigGo sig (k + 1) (sig.drop (k + 1))) else 34) := by
    show _ = _
    rw [HR.out, HG.out, xAR hm]
    rfl
   clear hm
   obtain ⟨SB, hsy⟩ : ∃ b, symB s = b := ⟨_, rfl⟩
   rw [hsy] at HD
   rw [sym_ref] at hsy
   go_upto_region 6 with fail
   go_cut [29] from 14 to 29 (fun r wx => r = .bool (!SB) ∧ Below wr.heap.size wr wx)
   case first =>
    go_wp2_with fail
    refine (refName_any s wr hs3).mono ?_
    rintro e w1 ⟨rfl, hb1⟩
    have hd0 := (zK hb1).cell _ _ hc0
    have HB1 := hid hb1
    clear hb1
    cases hn : nameB (Lib.validD s.data.toList) s
    ·go_wp2_with fail
     refine (refMarked_any s w1 hs3).mono ?_
     rintro e w2 ⟨rfl, hb2⟩
     rw [hn, Bool.false_or] at hsy
     rw [hsy]
     have HB2 := hid (zS HB1.out hb2)
     clear hb2 hsy hn
     go_wp2
     go_meet
     exact ⟨rfl, HB2.out⟩
    rw [hn, Bool.true_or] at hsy
    subst hsy
    go_wp2
    go_meet
    exact ⟨rfl, HB1.out⟩
   case rest =>
    obtain ⟨rfl, hbx⟩ := hcut
    have he0 := (zK hbx).cell _ _ hc0
    have he1 := (zK hbx).cell _ _ hc1
    have HBc := hid (zS hbl hbx)
    have HSc := hid (HSr.out.kp (zK hbx))
    clear hbx hc0 hc1 hsy hbl HSr
    cases SB
    ·have HF : Hid (sigE sig = 34) := by show _ = _; rw [HD.out]; rfl
     go_wp2
     go_ret
     exact ⟨ret1i HF.out.symm, HBc.out⟩
    by_cases ha0 : a < 0
    ·have HF : Hid (sigE sig = 35) := by show _ = _; rw [HD.out, if_pos rfl, if_pos (.inl ha0)]
     go_wp2
     go_ret
     exact ⟨ret1i HF.out.symm, HBc.out⟩
    by_cases ha8 : 8 < a
    ·have HF : Hid (sigE sig = 35) := by show _ = _; rw [HD.out, if_pos rfl, if_pos (.inr ha8)]
     go_wp2
     go_ret
     exact ⟨ret1i HF.out.symm, HBc.out⟩
    have HF : Hid (sigE sig = if hasB (sig.take k) s then 36 else sigGo sig (k + 1) (sig.drop (k + 1))) := by show _ = _; rw [HD.out, if_pos rfl, if_neg (by omega)]
    clear HD
    go_wp2
    go_loopw [4] (fun x wy => ∃ j : Nat, j ≤ k ∧ x = .int .i64 j ∧ hasB (sig.take j) s = false ∧ Below wc.heap.size wc wy) (fun x _ => k - (intOf x).toNat)
    case atStart => exact ⟨0, Nat.zero_le _, rfl, rfl, Below.refl _ _⟩
    case round =>
     obtain ⟨j, hj, rfl, hno, hby⟩ := hrel
     have HNo := hid hno
     have HBy := hid (zS HBc.out hby)
     have hf0 := (zK hby).cell _ _ he0
     have hf1 := (zK hby).cell _ _ he1
     clear hno
     by_cases hjk : j < k
     ·obtain ⟨g', off', s2, a2, hq, hm2, hk0, _, _, _, _⟩ := (HSc.out.kp (zK hby)).at (k := j) (by omega)
      obtain ⟨rfl, rfl⟩ : g = g' ∧ off = off' := by simpa using hq
      have hjl : j < sig.length := by omega
      have HA : Hid (hasB (sig.take (j + 1)) s = (hasB (sig.take j) s || sameS s2 s)) := by
       show _ = _
       unfold hasB
       rw [List.take_add_one, hm2, List.any_append]
       simp
      have HAll : Hid (hasB (sig.take (j + 1)) s = true → hasB (sig.take k) s = true) := fun h => by
       unfold hasB at h ⊢
       rw [List.any_eq_true] at h ⊢
       obtain ⟨x, hx, hx2⟩ := h
       exact ⟨x, List.take_subset_take_left _ (by omega) hx, hx2⟩
      clear hm2 hq
      cases hss : sameS s2 s
      ·have hss2 : (s2.toList == s.toList) = false := hss
       have HN2 : Hid (hasB (sig.take (j + 1)) s = false) := by show _ = _; rw [HA.out, HNo.out, hss]; rfl
       go_wp2
       go_quiet (fail)
       go_wp2
       go_roundw
       case rel => exact ⟨j + 1, by omega, by go_num, HN2.out, below_drewN hby _⟩
       case measure => simp [intOf]; omega
      have hss2 : (s2.toList == s.toList) = true := hss
      have HN2 : Hid (sigE sig = 36) := by show _ = _; rw [HF.out, HAll.out (by rw [HA.out, hss, Bool.or_true]), if_pos rfl]
      go_wp2
      go_quiet (fail)
      go_wp2
      go_ret
      exact ⟨ret1i HN2.out.symm, below_drewN HBy.out _⟩
     have hjk2 : j = k := by omega
     have HN : Hid (sigGo sig 0 sig = sigGo sig (k + 1) (sig.drop (k + 1))) := by
      show _ = _
      rw [← HR.out, HF.out, ← hjk2, HNo.out, hjk2]
      rfl
     go_wp2
     go_roundw
     case rel => exact ⟨k + 1, by omega, by go_num, HN.out, HBy.out⟩
     case measure => simp [intOf]; omega
  have hke : k = sig.length := by omega
  subst hke
  have HF : Hid (sigE sig = 0) := by show _ = _; rw [HR.out, HG.out, List.drop_length]; rfl
  go_wp2
  go_ret
  exact ⟨ret1i HF.out.symm, hbl⟩
theorem refTerm_any (sv v : Value) (sig : List Sy) (t : List Int) (w : World) (hs : Sg w sv sig) (h : Is w v t) (ha : ArOk sig) (hb : t.length * 8 ≤ 140737488351232) :
  Calls Tryz.prog 82 #[sv, v] w fun e w' => e = .returned (.int .i64 (rowE sig t)) ∧ w' = w := by
 obtain ⟨so, sc, rfl, hso, hsc, _⟩ := Row.flat hs
 obtain ⟨ao, cap, rfl, hao, hca, q0⟩ := Row.flat h
 unfold maxLen at hca hsc
 have HS := hid hs
 have HT := hid h
 have HA := hid ha
 clear hs h q0 ha
 go_enter Tryz.func82, Tryz.ntmps82
 go_wp2
 go_loopw [5, 6] (fun x i wr => ∃ (k : Nat) (m : Int), k ≤ t.length ∧ x = .int .i64 m ∧ i = .int .i64 k ∧ ((0 < m ∧ firstT sig 1 0 t = firstT sig m k (t.drop k)) ∨ (m = 0 ∧ rowE sig t = 0)) ∧ m ≤ 1 + 1000 * (k : Int) ∧ wr = w) (fun _ i _ => t.length + 1 - (intOf i).toNat)
 case atStart => exact ⟨0, 1, Nat.zero_le _, rfl, rfl, .inl ⟨by omega, rfl⟩, by omega, rfl⟩
 case round =>
  obtain ⟨k, m, hk, rfl, rfl, hft, hm2, hw⟩ := hrel
  have hw8 := hw.symm
  subst hw8
  clear hw
  rcases hft with ⟨hm0, hft⟩ | ⟨rfl, hft⟩
  ·have HF := hid hft
   clear hft
   by_cases hlt : k < t.length
   ·have hne : ((k : Int) == (t.length : Int)) = false := by rw [zY]; omega
    obtain ⟨g, off, c, rfl, hx1, hx2, hx3, hx4⟩ := HT.out.at hlt
    have HD : Hid (t.drop k = c :: t.drop (k + 1)) := xAR hx1
    clear hx1
    by_cases hbad : (sig.length : Int) ≤ c ∨ c < -1048576
    ·have HR : Hid (rowE sig t = 30) := by show _ = _; unfold rowE; rw [HF.out, HD.out, firstT, xEC hbad]; rfl
     rcases hbad with hbad | hbad
     ·go_wp2
      go_ret
      exact ⟨ret1i HR.out.symm, rfl⟩
     by_cases hbad2 : (sig.length : Int) ≤ c
     ·omega
     go_wp2
     go_ret
     exact ⟨ret1i HR.out.symm, rfl⟩
    have hb1 : ¬ (sig.length : Int) ≤ c := fun h => hbad (.inl h)
    have hb2 : ¬ c < -1048576 := fun h => hbad (.inr h)
    clear hbad
    by_cases hc0 : c < 0
    ·have hcd : codeD sig c = some (-1) := codeD_var (by omega) hc0
     have hcn : ¬ 0 ≤ c := by omega
     have hwm : IntKind.i64.wrap (m - 1) = m - 1 := yA _ ⟨by omega, by omega⟩
     by_cases hz : m - 1 = 0
     ·have hzb : (m - 1 == 0) = true := by rw [beq_iff_eq]; exact hz
      have HR : Hid (rowE sig t = if (k : Int) + 1 < (t.length : Int) then 32 else 0) := by
       have h9 : firstT sig 1 0 t = ((k : Int) + 1, 0) := by
        rw [HF.out, HD.out, firstT, hcd]
        simp only
        rw [if_pos (by omega)]
       show _ = _
       unfold rowE
       rw [h9]
       simp
      clear hcd
      by_cases hmore : k + 1 < t.length
      ·have HR2 : Hid (rowE sig t = 32) := by show _ = _; rw [HR.out, if_pos (by omega)]
       go_wp2
       go_ret
       exact ⟨ret1i HR2.out.symm, rfl⟩
      have HR2 : Hid (rowE sig t = 0) := by show _ = _; rw [HR.out, if_neg (by omega)]
      go_wp2
      go_roundw
      case rel => exact ⟨k + 1, 0, by omega, rfl, by go_num, .inr ⟨rfl, HR2.out⟩, by omega, trivial⟩
      case measure => simp [intOf]; omega
     have hzb : (m - 1 == 0) = false := by rw [zY]; exact hz
     have HN : Hid (firstT sig 1 0 t = firstT sig (m - 1) (k + 1) (t.drop (k + 1))) := by show _ = _; rw [HF.out, HD.out, firstT, hcd]; simp only; rw [if_neg (by omega)]; rfl
     clear hcd
     go_wp2
     go_roundw
     case rel => exact ⟨k + 1, m - 1, by omega, rfl, by go_num, .inl ⟨by omega, HN.out⟩, by omega, trivial⟩
     case measure => simp [intOf]; omega
    obtain ⟨cn, rfl⟩ : ∃ cn : Nat, c = cn := ⟨c.toNat, by omega⟩
    have hcn : (0 : Int) ≤ (cn : Int) := by omega
    obtain ⟨g2, off2, nm, ar, rfl, hs1, hs2, hs3, hs4, hs5, hs6⟩ := HS.out.at (k := cn) (by omega)
    have har := HA.out _ (zD hs1)
    simp only at har
    have hcd : codeD sig (cn : Int) = some (ar - 1) := codeD_sym hs1
    have hwm1 : IntKind.i64.wrap (m - 1) = m - 1 := yA _ ⟨by omega, by omega⟩
    have hwm : IntKind.i64.wrap (m - 1 + ar) = m - 1 + ar := yA _ ⟨by omega, by omega⟩
    have hcl : cn < sig.length := by omega
    clear hs1
    by_cases hz : m - 1 + ar = 0
    ·have hzb : (m - 1 + ar == 0) = true := by rw [beq_iff_eq]; exact hz
     have HR : Hid (rowE sig t = if (k : Int) + 1 < (t.length : Int) then 32 else 0) := by
      have h9 : firstT sig 1 0 t = ((k : Int) + 1, 0) := by
       rw [HF.out, HD.out, firstT, hcd]
       simp only
       rw [if_pos (by omega)]
      show _ = _
      unfold rowE
      rw [h9]
      simp
     clear hcd
     by_cases hmore : k + 1 < t.length
     ·have HR2 : Hid (rowE sig t = 32) := by show _ = _; rw [HR.out, if_pos (by omega)]
      go_wp2
      go_ret
      exact ⟨ret1i HR2.out.symm, rfl⟩
     have HR2 : Hid (rowE sig t = 0) := by show _ = _; rw [HR.out, if_neg (by omega)]
     go_wp2
     go_roundw
     case rel => exact ⟨k + 1, 0, by omega, rfl, by go_num, .inr ⟨rfl, HR2.out⟩, by omega, trivial⟩
     case measure => simp [intOf]; omega
    have hzb : (m - 1 + ar == 0) = false := by rw [zY]; exact hz
    have HN : Hid (firstT sig 1 0 t = firstT sig (m - 1 + ar) (k + 1) (t.drop (k + 1))) := by
     show _ = _
     rw [HF.out, HD.out, firstT, hcd]
     simp only
     rw [if_neg (by omega), show m + (ar - 1) = m - 1 + ar by omega]
    clear hcd
    go_wp2
    go_roundw
    case rel => exact ⟨k + 1, m - 1 + ar, by omega, rfl, by go_num, .inl ⟨by omega, HN.out⟩, by omega, trivial⟩
    case measure => simp [intOf]; omega
   have heq : ((k : Int) == (t.length : Int)) = true := by rw [beq_iff_eq]; omega
   have HR : Hid (rowE sig t = 31) := by show _ = _; unfold rowE; rw [HF.out, zP (by omega)]; rfl
   go_wp2
   go_ret
   exact ⟨ret1i HR.out.symm, rfl⟩
  have HR := hid hft
  clear hft
  go_wp2
  go_ret
  exact ⟨ret1i HR.out.symm, rfl⟩
theorem refCheck_any (sv v : Value) (sig : List Sy) (t : List Int) (w : World) (hs : Sg w sv sig) (h : Is w v t) (hb : t.length * 8 ≤ 140737488351232) :
  Calls Tryz.prog 34 #[sv, v] w fun e w' => e = .returned (.int .i64 (termE sig t)) ∧ Below w.heap.size w w' := by
 have HS := hid hs
 have HI := hid h
 clear hs h
 go_enter Tryz.func34, Tryz.ntmps34
 go_wp2_with fail
 refine (xEV sv sig w HS.out).mono ?_
 rintro e w1 ⟨rfl, hb1⟩
 have HB := hid hb1
 have HS1 := hid (HS.out.kp (zK hb1))
 have HI1 := hid (HI.out.kp (zK hb1))
 clear hb1
 by_cases he : sigE sig = 0
 ·have HA := hid (sigE_ok he)
  have HF : Hid (termE sig t = rowE sig t) := by show _ = _; unfold termE; rw [if_pos he]
  rw [he]
  clear he
  go_wp2_with fail
  refine (refTerm_any sv v sig t w1 HS1.out HI1.out HA.out hb).mono ?_
  rintro e w9 ⟨rfl, hw9⟩
  have hw8 := hw9.symm
  subst hw8
  clear hw9
  go_wp2
  go_ret
  exact ⟨ret1i HF.out.symm, HB.out⟩
 have HF : Hid (termE sig t = sigE sig) := by show _ = _; unfold termE; rw [if_neg he]
 generalize sigE sig = E at he HF ⊢
 have heb : (E != 0) = true := by simpa using he
 go_wp2
 go_ret
 exact ⟨ret1i HF.out.symm, HB.out⟩
theorem mem_metA : ∀ {t m : List Int} {c : Int}, c ∈ metA m t ↔ c ∈ m ∨ (c ∈ t ∧ c < 0)
 | [], m, c => by simp [metA]
 | a :: t, m, c => by
  unfold metA
  split
  ·rename_i h
   rw [mem_metA]
   constructor
   ·rintro (h1 | ⟨h1, h2⟩)
    ·exact .inl h1
    exact .inr ⟨zT _ h1, h2⟩
   rintro (h1 | ⟨h1, h2⟩)
   ·exact .inl h1
   rcases yB.1 h1 with rfl | h1
   ·rcases h with h | h
    ·omega
    exact .inl h
   exact .inr ⟨h1, h2⟩
  rename_i h
  rw [mem_metA]
  constructor
  ·rintro (h1 | ⟨h1, h2⟩)
   ·rcases yE.1 h1 with h1 | h1
    ·exact .inl h1
    simp at h1
    subst h1
    exact .inr ⟨by simp, by have := fun hh => h (.inl hh); omega⟩
   exact .inr ⟨zT _ h1, h2⟩
  rintro (h1 | ⟨h1, h2⟩)
  ·exact .inl (yE.2 (.inl h1))
  rcases yB.1 h1 with rfl | h1
  ·exact .inl (by simp)
  exact .inr ⟨h1, h2⟩
theorem xCR {t : List Int} {x : Int} : x ∈ varsL t ↔ ∃ c ∈ t, c < 0 ∧ x = -1 - c := by
 unfold varsL
 rw [yL]
 constructor
 ·rintro ⟨c, hc, rfl⟩
  rcases mem_metA.1 hc with h | ⟨h, h2⟩
  ·cases h
  exact ⟨c, h, h2, rfl⟩
 rintro ⟨c, hc, h2, rfl⟩
 exact ⟨c, mem_metA.2 (.inr ⟨hc, h2⟩), rfl⟩
theorem isVarB_iff {n : Int} : isVarB n = true ↔ 0 ≤ n ∧ n < 1048576 := by
 unfold isVarB
 rw [Bool.and_eq_true, yY, yY]
def ER (w : World) (g o : Nat) (x : List Int) : Prop := x.length * 8 ≤ 140737488351232 ∧ ∃ u, w.cell? ⟨g, o, none⟩ = some u ∧ Is w u x
theorem ER.kp {w w' : World} (hk : Kp w w') (g o : Nat) (x : List Int) (h : ER w g o x) : ER w' g o x := by
 obtain ⟨h0, u, h1, h2⟩ := h
 exact ⟨h0, u, hk.cell _ _ h1, h2.kp hk⟩
def Rs (w : World) (v : Value) (l : List (List Int)) : Prop := Row ER 1 w v l
theorem Rs.kp {w w' : World} {v : Value} {l : List (List Int)} (h : Rs w v l) (hk : Kp w w') : Rs w' v l := Row.imp h hk.size (ER.kp hk)
theorem Rs.at {w : World} {ao : Option Addr} {n cap : Nat} {l : List (List Int)} (h : Rs w (.slice ao n cap) l) {k : Nat} (hk : k < l.length) :
  ∃ g off a t c, ao = some ⟨g, off, none⟩ ∧ l[k]? = some t ∧ w.cell? ⟨g, off + k, none⟩ = some (.slice a t.length c) ∧ Is w (.slice a t.length c) t ∧ t.length * 8 ≤ 140737488351232 := by
 obtain ⟨ao', cap', hv, _, _, hx⟩ := Row.flat h
 simp only [zZ] at hv
 obtain ⟨rfl, rfl, rfl⟩ := hv
 obtain ⟨g, off, t, rfl, hm, h3, v, h5, h6⟩ := hx k hk
 obtain ⟨a, c, rfl, _⟩ := Row.flat h6
 rw [Nat.mul_one] at h5
 exact ⟨g, off, a, t, c, rfl, hm, h5, h6, h3⟩
end Go.Proofs.YtdjmjhlbjcgoiaaGreatDoor
