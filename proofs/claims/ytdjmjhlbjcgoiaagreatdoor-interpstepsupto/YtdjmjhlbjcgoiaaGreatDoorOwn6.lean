/- Texts of the proof, one behind the other. -/
import Derived.Test.YtdjmjhlbjcgoiaaGreatDoorOwn5
import Derived.Test.YtdjmjhlbjcgoiaaGreatDoorOwn4
import Derived.Sort.QuietTacIn
import Derived.Sort.CutIn
import Derived.Deep.DeepAppendRoom
import Derived.Test.YtdjmjhlbjcgoiaaGreatDoorOwn1
set_option maxRecDepth 1000000
set_option maxHeartbeats 6400000
namespace Go.Proofs.YtdjmjhlbjcgoiaaGreatDoor
open Go.RowKit Go.Maps Go.BigFrame
theorem is_new (w : World) (xs : List Int) (t : TypeId) (hz : ∀ x ∈ xs, -9223372036854775808 ≤ x ∧ x ≤ 9223372036854775807) (hl : xs.length ≤ 1000) : Is (w.alloc (.cells (xs.map I64).toArray t)) (.slice (some ⟨w.heap.size, 0, none⟩) xs.length xs.length) xs := by
 refine ⟨some ⟨w.heap.size, 0, none⟩, xs.length, rfl, Nat.le_refl _, by unfold maxLen; omega, fun _ => ⟨w.heap.size, 0, rfl, by simp, fun k x hk => ?_⟩⟩
 refine ⟨(hz x (zD hk)).1, (hz x (zD hk)).2, ?_⟩
 rw [Nat.mul_one, Nat.zero_add, cell_of_row _ _ _ _ _ _ (yU _ _)]
 simp [hk, I64]
def EBs (w : World) (g : Nat) : Nat → List Bd → Prop
 | _, [] => True
 | o, b :: r => EB w g o b ∧ EBs w g (o + 2) r
theorem EBs.get {w : World} {g : Nat} : ∀ {p : List Bd} {o k : Nat} {m : Bd}, EBs w g o p → p[k]? = some m → EB w g (o + k * 2) m
 | [], _, _, _, _, h => by simp at h
 | x :: r, o, 0, m, h, hk => by
  simp at hk
  subst hk
  exact h.1
 | x :: r, o, k + 1, m, h, hk => by
  have := EBs.get h.2 (k := k) (by simpa using hk)
  rw [show o + (k + 1) * 2 = o + 2 + k * 2 by omega]
  exact this
def ESs (w : World) (g : Nat) : Nat → List Sy → Prop
 | _, [] => True
 | o, b :: r => ES w g o b ∧ ESs w g (o + 2) r
theorem ESs.get {w : World} {g : Nat} : ∀ {p : List Sy} {o k : Nat} {m : Sy}, ESs w g o p → p[k]? = some m → ES w g (o + k * 2) m
 | [], _, _, _, _, h => by simp at h
 | x :: r, o, 0, m, h, hk => by
  simp at hk
  subst hk
  exact h.1
 | x :: r, o, k + 1, m, h, hk => by
  have := ESs.get h.2 (k := k) (by simpa using hk)
  rw [show o + (k + 1) * 2 = o + 2 + k * 2 by omega]
  exact this
theorem sg_lit {w : World} {g : Nat} {p : List Sy} (hg : g < w.heap.size) (hl : p.length ≤ 9) (h : ESs w g 0 p) : Sg w (.slice (some ⟨g, 0, none⟩) p.length p.length) p := by
 refine ⟨_, p.length, rfl, Nat.le_refl _, by unfold maxLen; omega, fun _ => ⟨g, 0, rfl, hg, fun k m hk => ?_⟩⟩
 have := h.get hk
 rwa [Nat.zero_add] at this ⊢
def ERs (w : World) (g : Nat) : Nat → List (List Int) → Prop
 | _, [] => True
 | o, b :: r => ER w g o b ∧ ERs w g (o + 1) r
theorem ERs.get {w : World} {g : Nat} : ∀ {p : List (List Int)} {o k : Nat} {m : List Int}, ERs w g o p → p[k]? = some m → ER w g (o + k * 1) m
 | [], _, _, _, _, h => by simp at h
 | x :: r, o, 0, m, h, hk => by
  simp at hk
  subst hk
  exact h.1
 | x :: r, o, k + 1, m, h, hk => by
  have := ERs.get h.2 (k := k) (by simpa using hk)
  rw [show o + (k + 1) * 1 = o + 1 + k * 1 by omega]
  exact this
theorem rs_lit {w : World} {g : Nat} {p : List (List Int)} (hg : g < w.heap.size) (hl : p.length ≤ 9) (h : ERs w g 0 p) : Rs w (.slice (some ⟨g, 0, none⟩) p.length p.length) p := by
 refine ⟨_, p.length, rfl, Nat.le_refl _, by unfold maxLen; omega, fun _ => ⟨g, 0, rfl, hg, fun k m hk => ?_⟩⟩
 have := h.get hk
 rwa [Nat.zero_add] at this ⊢
theorem xAB {w : World} {t : TypeId} {vs : Array Value} {k : Nat} {v : Value} (hv : vs[k]? = some v) : (w.alloc (.cells vs t)).cell? ⟨w.heap.size, k, none⟩ = some v := by
 rw [cell_of_row _ _ _ _ _ _ (yU _ _)]
 simpa using hv
theorem xAP {w : World} {o : Obj} {g k : Nat} {v : Value} (h : w.cell? ⟨g, k, none⟩ = some v) : (w.alloc o).cell? ⟨g, k, none⟩ = some v := (zK (zA o)).cell _ _ h
def sumS : List Sy := [(⟨#[122, 101, 114, 111]⟩, 0), (⟨#[115]⟩, 1), (⟨#[112, 108, 117, 115]⟩, 2)]
theorem b0 {w : World} : Below w.heap.size w w := Below.refl _ _
theorem b1 {w w' : World} {o : Obj} (h : Below w.heap.size w w') : Below w.heap.size w (w'.alloc o) := zS h (zA o)
def EIs (w : World) (g : Nat) : Nat → List Int → Prop
 | _, [] => True
 | o, x :: r => EI w g o x ∧ EIs w g (o + 1) r
theorem EIs.get {w : World} {g : Nat} : ∀ {p : List Int} {o k : Nat} {m : Int}, EIs w g o p → p[k]? = some m → EI w g (o + k * 1) m
 | [], _, _, _, _, h => by simp at h
 | x :: r, o, 0, m, h, hk => by
  simp at hk
  subst hk
  exact h.1
 | x :: r, o, k + 1, m, h, hk => by
  have := EIs.get h.2 (k := k) (by simpa using hk)
  rw [show o + (k + 1) * 1 = o + 1 + k * 1 by omega]
  exact this
theorem is_lit {w : World} {g : Nat} {p : List Int} (hg : g < w.heap.size) (hl : p.length ≤ 9) (h : EIs w g 0 p) : Is w (.slice (some ⟨g, 0, none⟩) p.length p.length) p := by
 refine ⟨_, p.length, rfl, Nat.le_refl _, by unfold maxLen; omega, fun _ => ⟨g, 0, rfl, hg, fun k m hk => ?_⟩⟩
 have := h.get hk
 rwa [Nat.zero_add] at this ⊢
theorem xAQ {w : World} {t : TypeId} {vs : Array Value} {g k : Nat} {v : Value} (hg : g = w.heap.size) (hv : vs[k]? = some v) : (w.alloc (.cells vs t)).cell? ⟨g, k, none⟩ = some v := by
 subst hg
 exact xAB hv
theorem ei {w : World} {g o : Nat} {x : Int} (h1 : -9223372036854775808 ≤ x) (h2 : x ≤ 9223372036854775807) (h : w.cell? ⟨g, o, none⟩ = some (.int .i64 x)) : EI w g o x := ⟨h1, h2, h⟩
theorem look_rise : ∀ {s : List Bd}, s.Pairwise (fun a b => a.1 < b.1) → ∀ n, s.lookup n = s.reverse.lookup n
 | [], _, _ => rfl
 | (x, t) :: s, h, n => by
  obtain ⟨h1, h2⟩ := List.pairwise_cons.1 h
  rw [List.reverse_cons, List.lookup_cons]
  have ih := look_rise h2 n
  have happ : ∀ (l : List Bd), (l ++ [(x, t)]).lookup n = (match l.lookup n with | some y => some y | none => if n == x then some t else none) := by
   intro l
   induction l with
   | nil =>
    rw [yH, List.lookup_cons]
    cases n == x <;> rfl
   | cons a l il =>
    obtain ⟨k, v⟩ := a
    rw [yG, List.lookup_cons, List.lookup_cons]
    cases n == k with
    | true => rfl
    | false => exact il
  rw [happ, ← ih]
  cases hk : n == x with
  | true =>
   rw [beq_iff_eq] at hk
   subst hk
   cases hl : s.lookup n with
   | none => rfl
   | some y =>
    have hm := xDX hl
    have := h1 _ hm
    simp at this
  | false =>
   show s.lookup n = _
   cases s.lookup n <;> rfl
theorem xDP {sig : List Sy} (ha : ArOk sig) {c e : Int} (h : codeD sig c = some e) : -1 ≤ e := by
 unfold codeD at h
 split at h
 ·cases h
 split at h
 ·cases h; omega
 cases hs : sig[c.toNat]? with
 | none => rw [hs] at h; cases h
 | some s =>
  rw [hs] at h
  have := ha s (zD hs)
  simp only [zX] at h
  omega
theorem xAJ (sig : List Sy) (m : Int) (i : Nat) (c : Int) (t : List Int) : firstT sig m i (c :: t) = (match codeD sig c with | none => (0, 30) | some e => if m + e = 0 then ((i : Int) + 1, 0) else firstT sig (m + e) (i + 1) t) := rfl
theorem firstT_le (sig : List Sy) : ∀ (t : List Int) (m : Int) (i : Nat), (firstT sig m i t).2 = 0 → (firstT sig m i t).1 ≤ (i : Int) + t.length
 | [], m, i, h => by simp [firstT] at h
 | c :: t, m, i, h => by
  rw [xAJ] at h ⊢
  cases hc : codeD sig c with
  | none => rw [hc] at h; simp at h
  | some e =>
   rw [hc] at h
   simp only at h ⊢
   split
   ·simp only [zG]; omega
   rename_i hm
   rw [if_neg hm] at h
   have := firstT_le sig t (m + e) (i + 1) h
   simp only [zG]
   omega
theorem xAI {sig : List Sy} {t : List Int} : rowE sig t = 0 ↔ firstT sig 1 0 t = ((t.length : Int), 0) := by
 unfold rowE
 constructor
 ·intro h
  split at h
  ·cases h
  rename_i hn
  have h1 := firstT_le sig t 1 0 h
  have h2 : ¬ (firstT sig 1 0 t).1 < (t.length : Int) := fun h3 => hn ⟨h, h3⟩
  refine Prod.ext ?_ h
  show (firstT sig 1 0 t).1 = _
  omega
 intro h
 rw [h]
 simp
theorem xFB {sig : List Sy} (ha : ArOk sig) : ∀ (x : List Int) (d : Int) (j : Nat), 1 ≤ d → firstT sig d j x = ((j : Int) + x.length, 0) → ∀ (m : Int) (i : Nat) (r : List Int), d ≤ m → firstT sig m i (x ++ r) = if m = d then ((i : Int) + x.length, 0) else firstT sig (m - d) (i + x.length) r
 | [], d, j, hd, h, m, i, r, hm => by simp [firstT] at h
 | c :: x, d, j, hd, h, m, i, r, hm => by
  rw [yG]
  rw [xAJ] at h ⊢
  cases hc : codeD sig c with
  | none => rw [hc] at h; simp at h
  | some e =>
   rw [hc] at h
   simp only at h ⊢
   have he := xDP ha hc
   by_cases h0 : d + e = 0
   ·rw [if_pos h0] at h
    have hx : x = [] := by
     have := congrArg Prod.fst h
     simp only [zG] at this
     exact zE (by omega)
    subst hx
    by_cases hmd : m = d
    ·rw [if_pos (by omega), if_pos hmd]; simp
    rw [if_neg (by omega), if_neg hmd, show m + e = m - d by omega]; simp
   rw [if_neg h0] at h
   rw [if_neg (by omega), xFB ha x (d + e) (j + 1) (by omega) (by rw [h]; simp only [zG, Prod.mk.injEq, and_true]; omega) (m + e) (i + 1) r (by omega)]
   by_cases hmd : m = d
   ·rw [if_pos hmd, if_pos (by omega)]
    simp only [zG, Prod.mk.injEq, and_true]
    omega
   rw [if_neg hmd, if_neg (by omega), show m + e - (d + e) = m - d by omega, zG, show i + 1 + x.length = i + (x.length + 1) by omega]
theorem first_laid {sig : List Sy} (ha : ArOk sig) {f : Int → Option (List Int)} (hf : ∀ n u, f n = some u → rowE sig u = 0) : ∀ (t : List Int) (d : Int) (j i : Nat), 1 ≤ d → firstT sig d j t = ((j : Int) + t.length, 0) → firstT sig d i (laidL f t) = ((i : Int) + (laidL f t).length, 0)
 | [], d, j, i, hd, h => by simp [firstT] at h
 | c :: t, d, j, i, hd, h => by
  have hl : laidL f (c :: t) = piece f c ++ laidL f t := by unfold laidL; rw [List.flatMap_cons]
  rw [hl]
  rw [xAJ] at h
  cases hc : codeD sig c with
  | none => rw [hc] at h; simp at h
  | some e =>
   rw [hc] at h
   simp only at h
   have he := xDP ha hc
   -- what is left behind the code
   have hrest : d + e = 0 → t = [] := fun h0 => by
    rw [if_pos h0] at h
    have := congrArg Prod.fst h
    simp only [zG] at this
    exact zE (by omega)
   have hnext : ¬ d + e = 0 → ∀ i, firstT sig (d + e) i (laidL f t) = ((i : Int) + (laidL f t).length, 0) := fun h0 i => by
    rw [if_neg h0] at h
    exact first_laid ha hf t (d + e) (j + 1) i (by omega) (by rw [h]; simp only [zG, Prod.mk.injEq, and_true]; omega)
   have hself : firstT sig d i ([c] ++ laidL f t) = ((i : Int) + ([c] ++ laidL f t).length, 0) := by
    rw [List.singleton_append, xAJ, hc]
    simp only
    by_cases h0 : d + e = 0
    ·rw [if_pos h0, hrest h0]
     simp [laidL]
    rw [if_neg h0, hnext h0]
    simp only [zG, Prod.mk.injEq, and_true]
    omega
   by_cases hv : c < 0
   ·cases hb : f (-1 - c) with
    | none =>
     have : piece f c = [c] := by unfold piece; rw [if_pos hv, hb]; rfl
     rw [this]
     exact hself
    | some x =>
     have hp : piece f c = x := by unfold piece; rw [if_pos hv, hb]; rfl
     have hx := xAI.1 (hf _ _ hb)
     have he1 : e = -1 := by
      have hc2 := hc
      unfold codeD at hc2
      by_cases h9 : c < -1048576
      ·rw [if_pos h9] at hc2; cases hc2
      rw [if_neg h9, if_pos hv] at hc2; cases hc2; rfl
     rw [hp, xFB ha x 1 0 (by omega) (by rw [hx]; simp) d i (laidL f t) hd]
     by_cases h0 : d + e = 0
     ·rw [if_pos (by omega), hrest h0]
      simp [laidL]
     rw [if_neg (by omega), show d - 1 = d + e by omega, hnext h0, zF]
     simp only [Prod.mk.injEq, and_true]
     omega
   have : piece f c = [c] := by unfold piece; rw [if_neg hv]
   rw [this]
   exact hself
theorem row_laid {sig : List Sy} (ha : ArOk sig) {f : Int → Option (List Int)} (hf : ∀ n u, f n = some u → rowE sig u = 0) {t : List Int} (h : rowE sig t = 0) : rowE sig (laidL f t) = 0 := by
 have h1 := first_laid ha hf t 1 0 0 (by omega) (by rw [xAI.1 h]; simp)
 exact xAI.2 (by rw [h1]; simp)
theorem bind_made (sig : List Sy) : ∀ (s : List Bd) (p : Option Int), (∀ b ∈ s, isVarB b.1 = true ∧ termE sig b.2 = 0) → (∀ y, p = some y → ∀ b ∈ s, y < b.1) → s.Pairwise (fun a b => a.1 < b.1) → bindGo sig p s = 0
 | [], _, _, _, _ => rfl
 | a :: r, p, h, hp, hr => by
  obtain ⟨h1, h2⟩ := List.pairwise_cons.1 hr
  unfold bindGo
  rw [if_pos (h a (.head _)).1, if_neg (by
   cases p with
   | none => simp
   | some y =>
    have := hp y rfl a (.head _)
    simp
    omega), if_pos (h a (.head _)).2]
  exact bind_made sig r (some a.1) (fun b hb => h b (.tail _ hb)) (fun y hy b hb => by cases hy; exact h1 b hb) h2
def pre (x : Int) (r : List Bd) : List Bd := r.takeWhile fun c => decide (c.1 < x)
def skipE (x : Int) : List Bd → List Bd
 | [] => []
 | c :: r => if c.1 = x then r else c :: r
def post (x : Int) (r : List Bd) : List Bd := skipE x (r.dropWhile fun c => decide (c.1 < x))
end Go.Proofs.YtdjmjhlbjcgoiaaGreatDoor
namespace Go.Proofs.YtdjmjhlbjcgoiaaGreatDoor
open Go.RowKit Go.Maps Go.Shelf
attribute [local go_sem] Oper.semAt_some
def arN (sig : List Sy) (c : Int) : Nat := match sig[c.toNat]? with | some s => s.2.toNat | none => 0
def growStep (sig : List Sy) (st : List Tr) (c : Int) : List Tr := if c < 0 then st ++ [.var] else st.take (st.length - arN sig c) ++ [.app (st.drop (st.length - arN sig c)).reverse]
def growR (sig : List Sy) : List Int → List Tr
 | [] => []
 | c :: u => growStep sig (growR sig u) c
theorem xBO : ∀ ts : List Tr, sizes ts.reverse = sizes ts
 | [] => rfl
 | t :: ts => by
  rw [List.reverse_cons, xBJ, xBO ts]
  simp only [sizes]
  omega
theorem growStep_sizes (sig : List Sy) (st : List Tr) (c : Int) : sizes (growStep sig st c) = sizes st + 1 := by
 unfold growStep
 split
 ·rw [xBJ]; simp [sizes, Tr.size]
 have h1 := xBJ (st.take (st.length - arN sig c)) (st.drop (st.length - arN sig c))
 rw [zQ] at h1
 rw [xBJ]
 simp only [sizes, Tr.size, xBO]
 omega
theorem xAW (sig : List Sy) : ∀ u : List Int, sizes (growR sig u) = u.length
 | [] => rfl
 | c :: u => by
  show sizes (growStep sig (growR sig u) c) = _
  rw [growStep_sizes, xAW sig u, zG]
theorem codeD_ar {sig : List Sy} (ha : ArOk sig) {c e : Int} (h : codeD sig c = some e) (hc : ¬ c < 0) : e = (arN sig c : Int) - 1 ∧ c.toNat < sig.length := by
 unfold codeD at h
 by_cases h9 : c < -1048576
 ·omega
 rw [if_neg h9, if_neg hc] at h
 cases hs : sig[c.toNat]? with
 | none => rw [hs] at h; cases h
 | some s =>
  rw [hs] at h
  have := ha s (zD hs)
  simp only [zX] at h
  unfold arN
  rw [hs]
  simp only
  exact ⟨by omega, (zB.1 hs).1⟩
theorem growR_len {sig : List Sy} (ha : ArOk sig) : ∀ (u : List Int) (m : Int) (i : Nat), 1 ≤ m → firstT sig m i u = ((i : Int) + u.length, 0) → ((growR sig u).length : Int) = m
 | [], m, i, hm, h => by simp [firstT] at h
 | c :: u, m, i, hm, h => by
  rw [xAJ] at h
  cases hc : codeD sig c with
  | none => rw [hc] at h; simp at h
  | some e =>
   rw [hc] at h
   simp only at h
   have he := xDP ha hc
   have hlen : ((growR sig u).length : Int) = m + e := by
    by_cases h0 : m + e = 0
    ·rw [if_pos h0] at h
     have := congrArg Prod.fst h
     simp only [zG] at this
     obtain rfl : u = [] := zE (by omega)
     show ((0 : Nat) : Int) = _
     omega
    rw [if_neg h0] at h
    exact growR_len ha u (m + e) (i + 1) (by omega) (by rw [h]; simp only [zG, Prod.mk.injEq, and_true]; omega)
   show ((growStep sig (growR sig u) c).length : Int) = m
   unfold growStep
   by_cases hv : c < 0
   ·rw [if_pos hv, zF]
    have he1 : e = -1 := by
     have hc2 := hc
     unfold codeD at hc2
     by_cases h9 : c < -1048576
     ·rw [if_pos h9] at hc2; cases hc2
     rw [if_neg h9, if_pos hv] at hc2; cases hc2; rfl
    simp only [zG, List.length_nil]
    omega
   rw [if_neg hv, zF, zH]
   have := (codeD_ar ha hc hv).1
   simp only [zG, List.length_nil]
   omega
theorem xDZ {sig : List Sy} (ha : ArOk sig) : ∀ (p : List Int) (c : Int) (u : List Int) (m : Int) (i : Nat), 1 ≤ m → firstT sig m i (p ++ c :: u) = ((i : Int) + (p ++ c :: u).length, 0) → ¬ c < 0 → c.toNat < sig.length ∧ arN sig c ≤ (growR sig u).length
 | [], c, u, m, i, hm, h, hv => by
  rw [yH] at h
  have hl := growR_len ha (c :: u) m i hm h
  rw [xAJ] at h
  cases hc : codeD sig c with
  | none => rw [hc] at h; simp at h
  | some e =>
   rw [hc] at h
   simp only at h
   obtain ⟨k1, k2⟩ := codeD_ar ha hc hv
   refine ⟨k2, ?_⟩
   by_cases h0 : m + e = 0
   ·omega
   ·rw [if_neg h0] at h
    have := growR_len ha u (m + e) (i + 1) (by have := xDP ha hc; omega) (by rw [h]; simp only [zG, Prod.mk.injEq, and_true]; omega)
    omega
 | d :: p, c, u, m, i, hm, h, hv => by
  rw [yG, xAJ] at h
  cases hc : codeD sig d with
  | none => rw [hc] at h; simp at h
  | some e =>
   rw [hc] at h
   simp only at h
   by_cases h0 : m + e = 0
   ·rw [if_pos h0] at h
    have := congrArg Prod.fst h
    simp at this
    omega
   rw [if_neg h0] at h
   exact xDZ ha p c u (m + e) (i + 1) (by have := xDP ha hc; omega) (by rw [h]; simp only [zG, Prod.mk.injEq, and_true]; omega) hv
theorem xFJ {sig : List Sy} (ha : ArOk sig) {t : List Int} (h : rowE sig t = 0) : ∃ T, growR sig t = [T] ∧ T.size = t.length := by
 have h1 := growR_len ha t 1 0 (by omega) (by rw [xAI.1 h]; simp)
 have h2 := xAW sig t
 cases hg : growR sig t with
 | nil => rw [hg] at h1; simp at h1
 | cons T r =>
  rw [hg] at h1 h2
  obtain rfl : r = [] := zE (by simp at h1; omega)
  exact ⟨T, rfl, by simpa [sizes] using h2⟩
theorem own_rdv {w : World} {base : Nat} {e : TypeId} {v : Value} {vals : List Value} (h : w.ownsRow base e 1 v vals.length vals) : RdV w v vals := by
 rcases h.2 with ⟨rfl, hn⟩ | ⟨g, cap, cur, hv, hb, hg, hc, hm, hs, ht⟩
 ·exact .inl ⟨rfl, zE hn⟩
 subst hv
 refine .inr ⟨g, 0, cap, rfl, fun j u hj => ?_⟩
 have hlt := (zB.1 hj).1
 rw [Nat.zero_add, World.ownsRow.cellAt h j (by omega)]
 exact hj
theorem own_cut {w : World} {base : Nat} {e : TypeId} {ao : Option Addr} {n cap k : Nat} {vals : List Value} (h : w.ownsRow base e 1 (.slice ao n cap) n vals) (hk : k ≤ n) : w.ownsRow base e 1 (.slice ao k cap) k (vals.take k) := by
 have h1 := h.1
 refine ⟨by rw [zH]; omega, ?_⟩
 rcases h.2 with ⟨hv, hn⟩ | ⟨g, cp, cur, hv, hb, hg, hc, hm, hs, ht⟩
 ·simp only [zZ] at hv
  obtain ⟨rfl, rfl, rfl⟩ := hv
  obtain rfl : k = 0 := by omega
  exact .inl ⟨rfl, rfl⟩
 simp only [zZ] at hv
 obtain ⟨rfl, _, rfl⟩ := hv
 refine .inr ⟨g, cap, cur, rfl, hb, hg, by omega, hm, hs, ?_⟩
 rw [Nat.mul_one] at ht ⊢
 rw [← ht, List.take_take, Nat.min_eq_left hk]
theorem xEK {w w' : World} {a : Addr} (h : w'.heap[a.block]? = w.heap[a.block]?) : w'.frozen? a = w.frozen? a := by
 unfold World.frozen?
 rw [h]
theorem xDK {W : World} {l : Nat} {o o' : Obj} {a : Addr} {x : Value} (hl : W.heap[l]? = some o) (ho : o.isCells = false) (h : W.cell? a = some x) : (W.putObj l o').cell? a = some x := by
 have hne : a.block ≠ l := by
  rintro rfl
  unfold World.cell? at h
  rw [hl] at h
  cases o <;> simp_all [Obj.isCells]
 rw [World.cell?_of_block (World.putObj_heap_other hne)]
 exact h
attribute [local go_sem] Oper.semAt_some
section
variable {F : Fence} {n : Nat} {P : Program} {w w' : World} {ops : Array Oper} {rest : List Oper} {o : Oper} {a : Act} {Q : Exit → Act → World → Prop}
theorem xAD {K : Act → World → Prop} (s x : Operand) (t : TypeId) (hop : o.op = .call { callee := .builtin .append, args := #[s, x], argTypes := #[t, t] }) (v u : Value) {v' : Value} (hs : a.eval s = v) (hx : a.eval x = u)
  (hr : (Builtin.append_ #[t, t] o.type #[v, u]).run P w = .ok v' w') (h : K (a.put o.dst v') w') : o.wpIn F n P a w K Q := by
 unfold Oper.wpIn
 refine ⟨?_, ?_⟩
 ·simp [Oper.about, hop, resolve, Target.leads, Sem.run_pure]
 rw [Oper.semAt_plain F _ _ (by rw [hop]; intro c hc; cases hc)]
 simp [execOp, hop, resolve, invoke, builtin, hs, hx, hr, Result.andThen]
 exact h
theorem xCW {md : Region.Mode} (l : Nat) (hnd : (ops.all fun o => match o.op with | .defer _ => false | _ => true) = true) :
  ∀ (fuel : Nat) (listed : Array Bool) (a : Act) (w : World), wpAnyIn F n P md ops Q fuel listed a w → wpAnyIn (F.inRound l) n P md ops Q fuel listed a w := by
 intro fuel
 induction fuel with
 | zero => intro listed a w h; exact h
 | succ fuel ih =>
  intro listed a w h
  refine ⟨h.1, fun i hi => ?_⟩
  have h1 := wpOpIn_mono (fun a w h => ih (listed.setIfInBounds i true) a w h) (h.2 i hi)
  unfold wpOpIn at h1 ⊢
  cases ho : ops[i]? with
  | none => simp only [ho] at h1; exact h1
  | some o =>
   simp only [ho] at h1 ⊢
   have hno : ∀ c, o.op ≠ .defer c := fun c hc => by
    obtain ⟨hl, he⟩ := zL.1 ho
    have h2 := Array.all_eq_true.1 hnd i hl
    rw [he, hc] at h2
    cases h2
   split
   ·rename_i hw
    rw [if_pos hw] at h1
    unfold Oper.wpIn at h1 ⊢
    rw [Oper.semAt_plain _ _ _ hno] at h1 ⊢
    refine ⟨h1.1, ?_⟩
    have h3 := h1.2
    generalize (execOp a.eval o).run P w = r at h3 ⊢
    cases r with
    | ok x w' => cases x <;> exact h3
    | halt x w' => cases x <;> exact h3
   rename_i hw
   rw [if_neg hw] at h1
   exact h1
end
theorem xFM {w : World} {t : TypeId} {x : Value} {g : Nat} (hg : g = w.heap.size) (_h : x = x) : (w.alloc (.cells #[x] t)).cell? ⟨g, 0, none⟩ = some x := by
 subst hg
 rw [cell_of_row _ _ _ _ _ _ (yU _ _)]
 rfl
theorem frozen_newg {w : World} {t : TypeId} {x : Value} {g : Nat} (hg : g = w.heap.size) : (w.alloc (.cells #[x] t)).frozen? ⟨g, 0, none⟩ = false := by
 subst hg
 simp
theorem drop_rev {t : List Int} {k : Nat} (hk : k < t.length) : ∃ c, t.reverse[k]? = some c ∧ t.drop (t.length - (k + 1)) = c :: t.drop (t.length - k) ∧ t = t.take (t.length - (k + 1)) ++ c :: t.drop (t.length - k) := by
 have hj : t.length - (k + 1) < t.length := by omega
 refine ⟨t[t.length - (k + 1)], ?_, ?_, ?_⟩
 ·rw [List.getElem?_reverse hk, show t.length - 1 - k = t.length - (k + 1) by omega]
  exact zC hj
 ·rw [List.drop_eq_getElem_cons hj, show t.length - (k + 1) + 1 = t.length - k by omega]
 have h1 := zQ (t.length - (k + 1)) t
 rw [List.drop_eq_getElem_cons hj, show t.length - (k + 1) + 1 = t.length - k by omega] at h1
 exact h1.symm
end Go.Proofs.YtdjmjhlbjcgoiaaGreatDoor
namespace Go.Proofs.YtdjmjhlbjcgoiaaGreatDoor
open Go.RowKit Go.Maps Go.BigFrame
theorem own_blk_lt {w : World} {base : Nat} {e : TypeId} {s m j : Nat} {v : Value} {xs : List Value} (h : w.ownsRow base e s v m xs) (hj : v.ownBlock = some j) : j < w.heap.size := by
 rcases h.2 with ⟨rfl, _⟩ | ⟨g', cap, cur, rfl, hb, hg, _⟩
 ·cases hj
 cases hj
 exact (zL.1 hg).1
theorem Is.mid {w : World} {b off cap k m : Nat} {t : List Int} (h : Is w (.slice (some ⟨b, off, none⟩) t.length cap) t) (hk : k < t.length) (hm : k + m ≤ t.length) : Is w (.slice (some ⟨b, off + k, none⟩) m (cap - k)) ((t.drop k).take m) := by
 obtain ⟨ao, cap', e, h1, h2, h3⟩ := h
 simp only [zZ, true_and] at e
 obtain ⟨rfl, rfl⟩ := e
 obtain ⟨g, o, e, hg, hE⟩ := h3 (by omega)
 simp only [zX, Addr.mk.injEq, and_true] at e
 obtain ⟨rfl, rfl⟩ := e
 have hl : ((t.drop k).take m).length = m := by rw [zH, zI]; omega
 refine ⟨some ⟨b, off + k, none⟩, cap - k, by rw [hl], by omega, by omega, fun _ => ⟨b, off + k, rfl, hg, fun j x hj => ?_⟩⟩
 have hjl := (zB.1 hj).1
 rw [List.getElem?_take_of_lt (by omega), List.getElem?_drop] at hj
 have := hE (k + j) x hj
 rw [show off + k + j * 1 = off + (k + j) * 1 by omega]
 exact this
theorem xEA {sig : List Sy} : ∀ (r : List Int) (m : Int) (i : Nat) (n : Int), firstT sig m i r = (n, 0) → ∃ k : Nat, n = (i : Int) + k ∧ 1 ≤ k ∧ k ≤ r.length ∧ firstT sig m i (r.take k) = (n, 0)
 | [], m, i, n, h => by simp [firstT] at h
 | c :: r, m, i, n, h => by
  rw [xAJ] at h
  cases hc : codeD sig c with
  | none => rw [hc] at h; simp at h
  | some e =>
   rw [hc] at h
   simp only at h
   by_cases h0 : m + e = 0
   ·rw [if_pos h0] at h
    refine ⟨1, ?_, Nat.le_refl _, by simp, ?_⟩
    ·have := congrArg Prod.fst h
     simp only at this
     omega
    rw [List.take_succ_cons, List.take_zero, xAJ, hc]
    simp only
    rw [if_pos h0]
    exact h
   rw [if_neg h0] at h
   obtain ⟨k, h1, h2, h3, h4⟩ := xEA r (m + e) (i + 1) n h
   refine ⟨k + 1, by omega, by omega, by simp; omega, ?_⟩
   rw [List.take_succ_cons, xAJ, hc]
   simp only
   rw [if_neg h0]
   exact h4
def endP (sig : List Sy) (t : List Int) (p : Int) : Int × Int := if p < 0 ∨ (t.length : Int) ≤ p then (0, 33) else (p + (firstT sig 1 0 (t.drop p.toNat)).1, (firstT sig 1 0 (t.drop p.toNat)).2)
theorem endP_ok {sig : List Sy} {t : List Int} {p n : Int} (h : endP sig t p = (n, 0)) : ∃ k m : Nat, p = k ∧ k < t.length ∧ 1 ≤ m ∧ n = ((k + m : Nat) : Int) ∧ k + m ≤ t.length ∧ rowE sig ((t.drop k).take m) = 0 := by
 unfold endP at h
 by_cases hp : p < 0 ∨ (t.length : Int) ≤ p
 ·rw [if_pos hp] at h
  simp at h
 rw [if_neg hp] at h
 obtain ⟨k, rfl⟩ : ∃ k : Nat, p = k := ⟨p.toNat, by omega⟩
 rw [Int.toNat_natCast] at h
 simp only [Prod.mk.injEq] at h
 obtain ⟨m, h1, h2, h3, h4⟩ := xEA (t.drop k) 1 0 (firstT sig 1 0 (t.drop k)).1 (Prod.ext rfl h.2)
 simp only [Int.natCast_zero, Int.zero_add] at h1
 rw [zI] at h3
 refine ⟨k, m, rfl, by omega, h2, by omega, by omega, ?_⟩
 rw [xAI, h4, zH, zI]
 simp only [Prod.mk.injEq, and_true]
 rw [h1]
 omega
theorem first_rng {sig : List Sy} : ∀ (r : List Int) (m : Int) (i : Nat), 0 ≤ (firstT sig m i r).1 ∧ (firstT sig m i r).1 ≤ (i : Int) + r.length
 | [], m, i => by simp [firstT]
 | c :: r, m, i => by
  rw [xAJ]
  cases hc : codeD sig c with
  | none => simp; omega
  | some e =>
   simp only
   by_cases h0 : m + e = 0
   ·rw [if_pos h0]; simp; omega
   rw [if_neg h0]
   have := first_rng (sig := sig) r (m + e) (i + 1)
   simp only [zG]
   omega
theorem endOf_any (sv v : Value) (sig : List Sy) (t : List Int) (p : Int) (w : World) (hs : Sg w sv sig) (h : Is w v t) (ha : ArOk sig) (hb : t.length * 8 ≤ 140737488351232) (hp1 : -9223372036854775808 ≤ p) (hp2 : p ≤ 9223372036854775807) :
  Calls Tryz.prog 58 #[sv, v, .int .i64 p] w fun e w' => e = .returned (.tuple #[.int .i64 (endP sig t p).1, .int .i64 (endP sig t p).2]) ∧ w' = w := by
 obtain ⟨ao, cap, rfl, hao, hca, q0⟩ := Row.flat h
 unfold maxLen at hca
 have HS := hid hs
 have HI := hid h
 have HA := hid ha
 clear hs h ha q0
 by_cases hlo : p < 0
 ·have HE : Hid (endP sig t p = (0, 33)) := by show _ = _; unfold endP; rw [if_pos (.inl hlo)]
  go_enter Tryz.func58, Tryz.ntmps58
  go_wp2
  go_ret2
  exact ⟨by rw [HE.out]; rfl, rfl⟩
 obtain ⟨k, rfl⟩ : ∃ k : Nat, p = k := ⟨p.toNat, by omega⟩
 by_cases hhi : t.length ≤ k
 ·have HE : Hid (endP sig t k = (0, 33)) := by show _ = _; unfold endP; rw [if_pos (.inr (by omega))]
  go_enter Tryz.func58, Tryz.ntmps58
  go_wp2
  go_ret2
  exact ⟨by rw [HE.out]; rfl, rfl⟩
 have HE : Hid (endP sig t k = ((k : Int) + (firstT sig 1 0 (t.drop k)).1, (firstT sig 1 0 (t.drop k)).2)) := by show _ = _; unfold endP; rw [if_neg (by omega), Int.toNat_natCast]
 obtain ⟨b, off, c0, rfl, _⟩ := HI.out.at (k := 0) (by omega)
 have hI2 := HI.out.mid (k := k) (m := t.length - k) (by omega) (by omega)
 rw [zO (by rw [zI]; exact Nat.le_refl _)] at hI2
 have HI2 := hid hI2
 have hrg := first_rng (sig := sig) (t.drop k) 1 0
 rw [zI] at hrg
 have hlt : k < t.length := by omega
 have hck : ¬ cap = k := by omega
 obtain ⟨N, hN⟩ : ∃ N, N = (firstT sig 1 0 (t.drop k)).1 := ⟨_, rfl⟩
 rw [← hN] at hrg HE
 have hw : IntKind.i64.wrap ((k : Int) + N) = (k : Int) + N := yA _ ⟨by omega, by omega⟩
 have HN := hid hN
 clear hI2 hN hhi
 go_enter Tryz.func58, Tryz.ntmps58
 go_wp2_with fail
 refine (firstTerm_any _ _ sig (t.drop k) w HS.out HI2.out HA.out (by rw [zI]; omega)).mono ?_
 rintro e w2 ⟨rfl, hw2⟩
 have hw8 := hw2.symm
 subst hw8
 clear hw2
 rw [← HN.out]
 go_wp2
 go_ret2
 exact ⟨by rw [HE.out]; rfl, rfl⟩
theorem empty_ints (w : World) {base : Nat} (hb : base ≤ w.heap.size) : (w.alloc (.cells #[] 3)).ownsRow base 3 1 (.slice (some ⟨w.heap.size, 0, none⟩) 0 0) 0 [] :=
 ⟨rfl, .inr ⟨w.heap.size, 0, #[], rfl, hb, yU _ _, Nat.le_refl _, by simp [maxLen], by simp, by simp⟩⟩
theorem cloneI_any (v : Value) (t : List Int) (w : World) (h : Is w v t) (h0 : 0 < t.length) (hl : t.length * 8 ≤ 140737488355328) :
  Calls Tryz.prog 61 #[v] w fun e w' => ∃ v', e = .returned v' ∧ OwI w' w.heap.size v' t ∧ Below w.heap.size w w' := by
 have hq : ∀ (W : World) (a : Option Addr) (n c n' c' : Nat), (binOp .eql 30 (.slice a n c) (.slice none n' c')).run Tryz.prog W = .ok (.bool a.isNone) W := fun W a n c n' c' => Lib.run_eql_slice_nil W _ _ a n c n' c' xBQ
 obtain ⟨ao, cap, rfl, hao, hca, q0⟩ := Row.flat h
 obtain ⟨g, off, c0, rfl, _⟩ := h.at h0
 obtain ⟨v', w', hr, ho, hg⟩ := xEZ 30 (w := w.alloc (.cells #[] 3)) (base := w.heap.size) (x := .slice (some ⟨w.heap.size, 0, none⟩) 0 0) (xs := []) ⟨fun k x hk => (by simp at hk), empty_ints w (Nat.le_refl _)⟩ (h.kp (zK (zA _))) (zA _).size (by simp; omega)
 rw [yH] at ho
 have HR := hid hr
 have HO := hid ho
 have HB := hid (xDH (zA _) hg (Nat.le_refl _))
 clear hr ho hg q0 h
 go_enter Tryz.func61, Tryz.ntmps61
 go_wp2_with (first
  | (at_builtin; refine xAL rfl _ _ _ rfl _ _ rfl rfl HR.out ?_))
 go_ret
 exact ⟨_, rfl, HO.out, HB.out⟩
def placeE (sig : List Sy) (t : List Int) (p : Int) : Int := if termE sig t = 0 then (endP sig t p).2 else termE sig t
def subL (sig : List Sy) (t : List Int) (p : Int) : List Int := if placeE sig t p = 0 then (t.drop p.toNat).take ((endP sig t p).1.toNat - p.toNat) else []
theorem placeE_ok {sig : List Sy} {t : List Int} {p : Int} (h : placeE sig t p = 0) : ArOk sig ∧ rowE sig t = 0 ∧ ∃ k m : Nat, p = k ∧ k < t.length ∧ 1 ≤ m ∧ endP sig t p = (((k + m : Nat) : Int), 0) ∧ k + m ≤ t.length ∧ subL sig t p = (t.drop k).take m ∧ rowE sig ((t.drop k).take m) = 0 := by
 have h0 := h
 unfold placeE at h
 by_cases ht : termE sig t = 0
 ·rw [if_pos ht] at h
  have hsg : sigE sig = 0 := by
   unfold termE at ht
   by_cases hs : sigE sig = 0
   ·exact hs
   rw [if_neg hs] at ht; exact ht
  have hrw : rowE sig t = 0 := by unfold termE at ht; rw [if_pos hsg] at ht; exact ht
  obtain ⟨k, m, h1, h2, h3, h4, h5, h6⟩ := endP_ok (Prod.ext rfl h : endP sig t p = ((endP sig t p).1, 0))
  refine ⟨sigE_ok hsg, hrw, k, m, h1, h2, h3, Prod.ext h4 h, h5, ?_, h6⟩
  unfold subL
  rw [if_pos h0, h4, h1, Int.toNat_natCast, Int.toNat_natCast, show k + m - k = m by omega]
 rw [if_neg ht] at h
 exact absurd h ht
theorem subL_bad {sig : List Sy} {t : List Int} {p : Int} (h : placeE sig t p ≠ 0) : subL sig t p = [] := by
 unfold subL
 rw [if_neg h]
theorem sub_any (sv v : Value) (sig : List Sy) (t : List Int) (p : Int) (w : World) (hs : Sg w sv sig) (h : Is w v t) (hT : Tabs w) (hb : t.length * 8 ≤ 140737488351232) (hp1 : -9223372036854775808 ≤ p) (hp2 : p ≤ 9223372036854775807) :
  Calls Tryz.prog 25 #[sv, v, .int .i64 p] w fun e w' => ∃ v', e = .returned (.tuple #[v', .int .i64 (placeE sig t p)]) ∧ OwI w' w.heap.size v' (subL sig t p) ∧ Below w.heap.size w w' := by
 have HS := hid hs
 have HI := hid h
 have HT := hid hT
 have HP := hid (And.intro hp1 hp2)
 clear hs h hT hp1 hp2
 go_enter Tryz.func25, Tryz.ntmps25
 go_wp2_with fail
 refine (xBP sv v sig t w HS.out HI.out HT.out hb).mono ?_
 rintro e w1 ⟨rfl, hb1⟩
 have HB1 := hid hb1
 clear hb1
 by_cases hte : termE sig t = 0
 ·have HPl : Hid (placeE sig t p = (endP sig t p).2) := by show _ = _; unfold placeE; rw [if_pos hte]
  have ha : ArOk sig := by
   unfold termE at hte
   by_cases hs : sigE sig = 0
   ·exact sigE_ok hs
   rw [if_neg hs] at hte; exact absurd hte hs
  have HA := hid ha
  rw [hte]
  clear hte ha
  go_wp2_with fail
  refine (endOf_any sv v sig t p w1 (HS.out.kp (zK HB1.out)) (HI.out.kp (zK HB1.out)) HA.out hb HP.out.1 HP.out.2).mono ?_
  rintro e w2 ⟨rfl, hw2⟩
  have hw8 := hw2.symm
  subst hw8
  clear hw2
  by_cases he : (endP sig t p).2 = 0
  ·obtain ⟨_, _, k, m, hk, hkl, hm1, hend, hkm, hsub, hrow⟩ := placeE_ok (HPl.out.trans he)
   subst hk
   have HE := hid (HPl.out.trans he)
   have HSub := hid hsub
   have hIm := HI.out.kp (zK HB1.out)
   obtain ⟨ao, cap, rfl, hao, hca, q0⟩ := Row.flat HI.out
   obtain ⟨b, off, c0, rfl, _⟩ := HI.out.at (k := 0) (by omega)
   unfold maxLen at hca
   have hI2 := hIm.mid hkl hkm
   have hlm : ((t.drop k).take m).length = m := by rw [zH, zI]; omega
   have HCl := hid (cloneI_any _ _ _ hI2 (by omega) (by rw [hlm]; omega))
   have hck : ¬ cap = k := by omega
   have hkm2 : k + m - k = m := by omega
   have hkc : k + m ≤ cap := by omega
   have hkc2 : k ≤ k + m := by omega
   rw [hend]
   clear hIm q0 hI2 hlm he hend hsub hrow
   go_wp2_with fail
   refine HCl.out.mono ?_
   rintro e w2 ⟨v', rfl, ho, hb2⟩
   have HO := hid (ho.mono HB1.out.size)
   have HB2 := hid (zS HB1.out hb2)
   clear ho hb2
   go_wp2
   go_ret2
   exact ⟨_, by rw [HE.out]; rfl, by rw [HSub.out]; exact HO.out, HB2.out⟩
  have HNe := hid (fun h => he (HPl.out.symm.trans h) : placeE sig t p ≠ 0)
  generalize (endP sig t p).2 = E at he HPl ⊢
  generalize (endP sig t p).1 = E1
  have heb : (E != 0) = true := by simpa using he
  go_wp2
  go_ret2
  exact ⟨_, by rw [HPl.out]; rfl, by rw [subL_bad HNe.out]; exact nilI _ _, HB1.out⟩
 have HPl : Hid (placeE sig t p = termE sig t) := by show _ = _; unfold placeE; rw [if_neg hte]
 have HNe := hid (fun h => hte (HPl.out.symm.trans h) : placeE sig t p ≠ 0)
 generalize termE sig t = E at hte HPl ⊢
 have heb : (E != 0) = true := by simpa using hte
 go_wp2
 go_ret2
 exact ⟨_, by rw [HPl.out]; rfl, by rw [subL_bad HNe.out]; exact nilI _ _, HB1.out⟩
theorem first_part {sig : List Sy} (ha : ArOk sig) : ∀ (r : List Int) (d m : Int) (j i : Nat), 1 ≤ d → d ≤ m → firstT sig m i r = ((i : Int) + r.length, 0) →
  ∃ k : Nat, 1 ≤ k ∧ k ≤ r.length ∧ firstT sig d j r = ((j : Int) + k, 0) ∧ (m = d → k = r.length) ∧ (d < m → firstT sig (m - d) (i + k) (r.drop k) = ((i : Int) + r.length, 0))
 | [], d, m, j, i, _, _, h => by simp [firstT] at h
 | c :: r, d, m, j, i, hd, hm, h => by
  rw [xAJ] at h ⊢
  cases hc : codeD sig c with
  | none => rw [hc] at h; simp at h
  | some e =>
   have he := xDP ha hc
   rw [hc] at h
   simp only at h ⊢
   by_cases h0 : m + e = 0
   ·rw [if_pos h0] at h
    have hl : r.length = 0 := by
     have := congrArg Prod.fst h
     simp at this
     omega
    refine ⟨1, Nat.le_refl _, by simp, by rw [if_pos (by omega)]; simp, fun _ => by simp [hl], fun h1 => by omega⟩
   rw [if_neg h0] at h
   by_cases h1 : d + e = 0
   ·refine ⟨1, Nat.le_refl _, by simp, by rw [if_pos h1]; simp, fun h2 => by omega, fun h2 => ?_⟩
    rw [List.drop_succ_cons, List.drop_zero, show m - d = m + e by omega]
    exact h
   obtain ⟨k, k1, k2, k3, k4, k5⟩ := first_part ha r (d + e) (m + e) (j + 1) (i + 1) (by omega) (by omega) (by rw [h]; simp only [zG, Prod.mk.injEq, and_true]; omega)
   refine ⟨k + 1, by omega, by simp; omega, by rw [if_neg h1, k3]; simp only [Prod.mk.injEq, and_true]; omega, fun h2 => by have := k4 (by omega); simp; omega, fun h2 => ?_⟩
   have h3 := k5 (by omega)
   rw [List.drop_succ_cons, show m - d = m + e - (d + e) by omega, show i + (k + 1) = i + 1 + k by omega, h3]
   simp only [zG, Prod.mk.injEq, and_true]
   omega
theorem xEH {sig : List Sy} (ha : ArOk sig) : ∀ (m : Nat) (r : List Int) (i : Nat), 1 ≤ m → firstT sig m i r = ((i : Int) + r.length, 0) → ∃ us : List (List Int), us.length = m ∧ r = us.flatten ∧ ∀ u ∈ us, rowE sig u = 0
 | 0, _, _, h, _ => absurd h (by omega)
 | m + 1, r, i, _, h => by
  obtain ⟨k, k1, k2, k3, k4, k5⟩ := first_part ha r 1 ((m + 1 : Nat) : Int) 0 i (by omega) (by omega) h
  obtain ⟨k', e1, _, _, e4⟩ := xEA r 1 0 _ k3
  have hkk : k' = k := by omega
  subst hkk
  have hr : rowE sig (r.take k') = 0 := by
   rw [xAI, e4, zH]
   simp only [Prod.mk.injEq, and_true]
   omega
  by_cases hm : m = 0
  ·subst hm
   have := k4 (by omega)
   refine ⟨[r], rfl, by simp, fun u hu => ?_⟩
   rw [yR] at hu
   subst hu
   rw [zO (by omega)] at hr
   exact hr
  have h5 := k5 (by omega)
  rw [show ((m + 1 : Nat) : Int) - 1 = (m : Int) by omega] at h5
  obtain ⟨us, u1, u2, u3⟩ := xEH ha m (r.drop k') (i + k') (by omega) (by rw [h5, zI]; simp only [Prod.mk.injEq, and_true]; omega)
  refine ⟨r.take k' :: us, by simp [u1], by rw [yT, ← u2, zQ], fun u hu => ?_⟩
  rcases yB.1 hu with rfl | hu
  ·exact hr
  exact u3 u hu
theorem xGK {sig : List Sy} (ha : ArOk sig) (v : List Int) : ∀ (u p : List Int), firstT sig 1 0 (p ++ u) = (((p ++ u).length : Int), 0) → growR sig (u ++ v) = growR sig v ++ growR sig u
 | [], p, _ => by simp [growR]
 | c :: u, p, h => by
  have ih := xGK ha v u (p ++ [c]) (by simpa using h)
  show growStep sig (growR sig (u ++ v)) c = growR sig v ++ growStep sig (growR sig u) c
  rw [ih]
  unfold growStep
  by_cases hc : c < 0
  ·rw [if_pos hc, if_pos hc, zR]
  rw [if_neg hc, if_neg hc]
  obtain ⟨_, h2⟩ := xDZ ha p c u 1 0 (by omega) (by rw [h]; simp) hc
  rw [zF, show (growR sig v).length + (growR sig u).length - arN sig c = (growR sig v).length + ((growR sig u).length - arN sig c) by omega, List.take_length_add_append, List.drop_length_add_append, zR]
theorem grow_flat {sig : List Sy} (ha : ArOk sig) : ∀ us : List (List Int), (∀ u ∈ us, rowE sig u = 0) → (growR sig us.flatten).reverse.map Tr.size = us.map List.length
 | [], _ => by simp [growR]
 | u :: us, h => by
  obtain ⟨T, h1, h2⟩ := xFJ ha (h u (by simp))
  have h3 := xGK ha us.flatten u [] (by rw [yH]; exact xAI.1 (h u (by simp)))
  rw [yT, h3, h1, List.reverse_append, yI, grow_flat ha us (fun x hx => h x (by simp [hx]))]
  simp [h2]
def places : Nat → List Nat → List Int
 | _, [] => []
 | p, n :: ns => (p : Int) :: places (p + n) ns
theorem xAE {sig : List Sy} {t : List Int} (h : termE sig t = 0) : sigE sig = 0 ∧ rowE sig t = 0 := by
 unfold termE at h
 by_cases hs : sigE sig = 0
 ·rw [if_pos hs] at h; exact ⟨hs, h⟩
 rw [if_neg hs] at h; exact absurd h hs
theorem sub_at {sig : List Sy} {t p u q : List Int} (ht : termE sig t = 0) (hu : rowE sig u = 0) (he : t = p ++ (u ++ q)) : placeE sig t p.length = 0 ∧ subL sig t p.length = u := by
 have ha := sigE_ok (xAE ht).1
 have h1 := xFB ha u 1 0 (by omega) (by rw [xAI.1 hu]; simp) 1 0 q (by omega)
 rw [if_pos rfl] at h1
 have hul : 0 < u.length := by
  cases u with
  | nil => simp [rowE, firstT] at hu
  | cons c u => simp
 have h2 : endP sig t p.length = (((p.length + u.length : Nat) : Int), 0) := by
  unfold endP
  rw [if_neg (by rw [he, zF, zF]; omega), Int.toNat_natCast, he, List.drop_left, h1]
  simp only [Prod.mk.injEq, and_true]
  omega
 have h3 : placeE sig t p.length = 0 := by unfold placeE; rw [if_pos ht, h2]
 refine ⟨h3, ?_⟩
 unfold subL
 rw [if_pos h3, h2, Int.toNat_natCast, Int.toNat_natCast, show p.length + u.length - p.length = u.length by omega, he, List.drop_left, List.take_left]
def cmpK : List Nat → List Nat → Int
 | [], [] => 0
 | [], _ :: _ => -1
 | _ :: _, [] => 1
 | a :: r, b :: q => if a < b then -1 else if b < a then 1 else cmpK r q
abbrev ltK (a b : List Nat) : Prop := cmpK a b < 0
theorem cmpK_self (a : List Nat) : cmpK a a = 0 := by
 induction a with
 | nil => rfl
 | cons a r ih => simp [cmpK, ih]
theorem cmpK_zero {a b : List Nat} (h : cmpK a b = 0) : a = b := by
 induction a generalizing b with
 | nil => cases b with
  | nil => rfl
  | cons b q => simp [cmpK] at h
 | cons a r ih => cases b with
  | nil => simp [cmpK] at h
  | cons b q =>
   unfold cmpK at h
   split at h
   ·omega
   split at h
   ·omega
   rw [ih h, show a = b by omega]
theorem cmpK_swap (a b : List Nat) : cmpK b a = -cmpK a b := by
 induction a generalizing b with
 | nil => cases b <;> simp [cmpK]
 | cons a r ih => cases b with
  | nil => simp [cmpK]
  | cons b q =>
   unfold cmpK
   by_cases h1 : a < b
   ·rw [if_neg (by omega), if_pos h1, if_pos h1]; rfl
   by_cases h2 : b < a
   ·rw [if_pos h2, if_neg h1, if_pos h2]
   rw [if_neg h2, if_neg h1, if_neg h1, if_neg h2, ih]
theorem xBT {a b c : List Nat} (h : ltK a b) (h' : ltK b c) : ltK a c := by
 unfold ltK at *
 induction a generalizing b c with
 | nil => cases b with
  | nil => exact h'
  | cons b q => cases c with
   | nil => simp [cmpK] at h'
   | cons c s => simp [cmpK]
 | cons a r ih => cases b with
  | nil => simp [cmpK] at h
  | cons b q => cases c with
   | nil => simp [cmpK] at h'
   | cons c s =>
    unfold cmpK at h h' ⊢
    by_cases h1 : a < b
    ·by_cases h2 : b < c
     ·rw [if_pos (by omega)]; omega
     rw [if_neg h2] at h'
     by_cases h3 : c < b
     ·rw [if_pos h3] at h'; omega
     rw [if_pos (by omega)]; omega
    rw [if_neg h1] at h
    by_cases h4 : b < a
    ·rw [if_pos h4] at h; omega
    rw [if_neg h4] at h
    obtain rfl : a = b := by omega
    by_cases h2 : a < c
    ·rw [if_pos h2]; omega
    rw [if_neg h2] at h' ⊢
    by_cases h3 : c < a
    ·rw [if_pos h3] at h'; omega
    rw [if_neg h3] at h' ⊢
    exact ih h h'
theorem xAS (a : List Nat) : ¬ ltK a a := by unfold ltK; rw [cmpK_self]; omega
theorem ltK_or {a b : List Nat} (h : ¬ a = b) (h' : ¬ ltK a b) : ltK b a := by
 unfold ltK at *
 have h1 := cmpK_swap a b
 have h2 : ¬ cmpK a b = 0 := fun e => h (cmpK_zero e)
 omega
abbrev LkY := List (List Nat × List Nat)
def Rising (L : LkY) : Prop := L.Pairwise (fun p q => ltK p.1 q.1)
def coefK (L : LkY) (k : List Nat) : List Nat := ((L.find? (fun p => p.1 == k)).map (·.2)).getD []
def hasK (L : LkY) (k : List Nat) : Bool := L.any (fun p => p.1 == k)
def insK : LkY → List Nat → List Nat → LkY
 | [], k, c => [(k, c)]
 | p :: r, k, c => if k = p.1 then (k, c) :: r else if ltK k p.1 then (k, c) :: p :: r else p :: insK r k c
theorem xCX {L : LkY} {k c : List Nat} (hL : Rising L) (q : List Nat × List Nat) : q ∈ insK L k c ↔ q = (k, c) ∨ (q ∈ L ∧ ¬ q.1 = k) := by
 induction L with
 | nil => simp [insK]
 | cons p r ih =>
  unfold Rising at hL
  rw [List.pairwise_cons] at hL
  have ih := ih hL.2
  unfold insK
  by_cases h1 : k = p.1
  ·rw [if_pos h1]
   simp only [List.mem_cons]
   constructor
   ·rintro (h | h)
    ·exact .inl h
    refine .inr ⟨.inr h, fun e => ?_⟩
    have := hL.1 q h
    rw [e, h1] at this
    exact xAS _ this
   rintro (h | ⟨h | h, h2⟩)
   ·exact .inl h
   ·exact absurd (by rw [h, h1]) h2
   exact .inr h
  rw [if_neg h1]
  by_cases h2 : ltK k p.1
  ·rw [if_pos h2]
   simp only [List.mem_cons]
   constructor
   ·rintro (h | h | h)
    ·exact .inl h
    ·exact .inr ⟨.inl h, by rw [h]; exact fun e => h1 e.symm⟩
    refine .inr ⟨.inr h, fun e => ?_⟩
    have := hL.1 q h
    rw [e] at this
    exact xAS _ (xBT h2 this)
   rintro (h | ⟨h | h, _⟩)
   ·exact .inl h
   ·exact .inr (.inl h)
   exact .inr (.inr h)
  rw [if_neg h2]
  simp only [List.mem_cons, ih]
  constructor
  ·rintro (h | h | ⟨h, h3⟩)
   ·exact .inr ⟨.inl h, by rw [h]; exact fun e => h1 e.symm⟩
   ·exact .inl h
   exact .inr ⟨.inr h, h3⟩
  rintro (h | ⟨h | h, h3⟩)
  ·exact .inr (.inl h)
  ·exact .inl h
  exact .inr (.inr ⟨h, h3⟩)
theorem xDE {L : LkY} {k c : List Nat} (hL : Rising L) : Rising (insK L k c) := by
 induction L with
 | nil => simp [insK, Rising]
 | cons p r ih =>
  have hL' := hL
  unfold Rising at hL
  rw [List.pairwise_cons] at hL
  unfold insK
  by_cases h1 : k = p.1
  ·rw [if_pos h1]
   unfold Rising
   rw [List.pairwise_cons]
   exact ⟨fun q hq => by show ltK k q.1; rw [h1]; exact hL.1 q hq, hL.2⟩
  rw [if_neg h1]
  by_cases h2 : ltK k p.1
  ·rw [if_pos h2]
   unfold Rising
   rw [List.pairwise_cons]
   refine ⟨fun q hq => ?_, hL'⟩
   show ltK k q.1
   rcases List.mem_cons.1 hq with rfl | hq
   ·exact h2
   exact xBT h2 (hL.1 q hq)
  rw [if_neg h2]
  unfold Rising
  rw [List.pairwise_cons]
  refine ⟨fun q hq => ?_, ih hL.2⟩
  rcases (xCX hL.2 q).1 hq with rfl | ⟨hq, _⟩
  ·exact ltK_or h1 h2
  exact hL.1 q hq
theorem xBI {L : LkY} {k : List Nat} : hasK L k = true ↔ ∃ c, (k, c) ∈ L := by
 unfold hasK
 rw [List.any_eq_true]
 constructor
 ·rintro ⟨⟨k', c⟩, h, e⟩
  have : k' = k := by simpa using e
  subst this
  exact ⟨c, h⟩
 rintro ⟨c, h⟩
 exact ⟨(k, c), h, by simp⟩
theorem length_insK {L : LkY} {k c : List Nat} (hL : Rising L) : (insK L k c).length = if hasK L k then L.length else L.length + 1 := by
 induction L with
 | nil => simp [insK, hasK]
 | cons p r ih =>
  unfold Rising at hL
  rw [List.pairwise_cons] at hL
  have ih := ih hL.2
  unfold insK
  by_cases h1 : k = p.1
  ·rw [if_pos h1]
   have : hasK (p :: r) k = true := by simp [hasK, h1]
   rw [this]; simp
  rw [if_neg h1]
  have hb : (p.1 == k) = false := by rw [beq_eq_false_iff_ne]; exact fun e => h1 e.symm
  have hc : hasK (p :: r) k = hasK r k := by simp [hasK, hb]
  by_cases h2 : ltK k p.1
  ·rw [if_pos h2]
   have : hasK (p :: r) k = false := by
    rw [Bool.eq_false_iff]
    intro h
    rw [hc, xBI] at h
    obtain ⟨c', h⟩ := h
    exact xAS _ (xBT h2 (hL.1 _ h))
   rw [this]; simp
  rw [if_neg h2, hc, List.length_cons, ih]
  split <;> simp
theorem xCV {L : LkY} {k c : List Nat} (hL : Rising L) (h : (k, c) ∈ L) : coefK L k = c := by
 induction L with
 | nil => cases h
 | cons p r ih =>
  unfold Rising at hL
  rw [List.pairwise_cons] at hL
  rcases List.mem_cons.1 h with rfl | h
  ·simp [coefK]
  have hb : (p.1 == k) = false := by
   rw [beq_eq_false_iff_ne]
   intro e
   have := hL.1 _ h
   rw [e] at this
   exact xAS _ this
  have := ih hL.2 h
  unfold coefK at this ⊢
  rw [List.find?_cons, hb]
  exact this
theorem xBZ {L : LkY} {k : List Nat} (h : hasK L k = false) : coefK L k = [] := by
 unfold coefK
 rw [List.find?_eq_none.2]
 ·rfl
 intro p hp e
 have : hasK L k = true := List.any_eq_true.2 ⟨p, hp, e⟩
 rw [h] at this
 cases this
def putE (L : LkY) (k c : List Nat) : Int := if addE (coefK L k) c = 0 then (if (insK L k (addL (coefK L k) c)).length ≤ 256 then 0 else 2) else addE (coefK L k) c
def putL (L : LkY) (k c : List Nat) : LkY := if addE (coefK L k) c = 0 then insK L k (addL (coefK L k) c) else L
end Go.Proofs.YtdjmjhlbjcgoiaaGreatDoor
