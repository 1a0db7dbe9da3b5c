/- kidsOf walked. -/
import Derived.Test.YtjcgngfidnechaaDoorTGrowW
import Derived.Test.YtjcgngfidnechaaDoorTSpl
namespace Go.Proofs.YtjcgngfidnechaaDoor
open Go.RowKit Go.Maps

/-- The places of trees that stand one behind the other. -/
def kidsGo : Nat → List Tr → List Int
  | _, [] => []
  | p, t :: ts => (p : Int) :: kidsGo (p + t.size) ts

theorem kidsGo_app : ∀ (p : Nat) (a b : List Tr), kidsGo p (a ++ b) = kidsGo p a ++ kidsGo (p + sizes a) b
  | p, [], b => by simp [kidsGo, sizes]
  | p, t :: a, b => by simp only [List.cons_append, kidsGo, kidsGo_app (p + t.size) a b, sizes, Nat.add_assoc]

theorem kidsGo_len : ∀ (p : Nat) (a : List Tr), (kidsGo p a).length = a.length
  | _, [] => rfl
  | p, t :: a => by simp only [kidsGo, List.length_cons, kidsGo_len (p + t.size) a]

def kidsR (p : Nat) : Tr → List Int
  | .var => []
  | .app ts => kidsGo (p + 1) ts

theorem TVs.get {w : World} {A : Nat → Prop} {g : Nat} : ∀ {o : Nat} {ts : List Tr} {k : Nat} {t : Tr}, TVs w A g o ts → ts[k]? = some t → ∃ v, w.cell? ⟨g, o + k, none⟩ = some v ∧ TV w A v t
  | o, [], k, t, _, hk => by simp at hk
  | o, x :: ts, 0, t, h, hk => by
    unfold TVs at h
    simp only [List.getElem?_cons_zero, Option.some.injEq] at hk
    subst hk
    exact h.1
  | o, x :: ts, k + 1, t, h, hk => by
    unfold TVs at h
    rw [List.getElem?_cons_succ] at hk
    obtain ⟨v, h1, h2⟩ := TVs.get h.2 hk
    exact ⟨v, by rw [show o + (k + 1) = o + 1 + k by omega]; exact h1, h2⟩

theorem under_app : Tryd.prog.underlying 64 = some (.pointer 68) := by kernel_rfl

theorem zero_app : (Tryd.prog.info? 64).map (·.zero) = some (some (.pointer none)) := by kernel_rfl

theorem as_app (v : Value) (xT : TypeId) (ok : Bool) (w : World) : (Instr.typeAssert (.iface 64 v) xT 64 ok).run Tryd.prog w = .ok (if ok then .tuple #[v, .bool true] else v) w := by
  simp [Instr.typeAssert, run_underlying under_app, go_sem, Result.andThen]

theorem as_not (v : Value) (xT : TypeId) (w : World) : (Instr.typeAssert (.iface 73 v) xT 64 true).run Tryd.prog w = .ok (.tuple #[.pointer none, .bool false]) w := by
  obtain ⟨i, hi, hz⟩ : ∃ i, Tryd.prog.info? 64 = some i ∧ i.zero = some (.pointer none) := by
    have h := zero_app
    cases hi : Tryd.prog.info? 64 with
    | none => rw [hi] at h; cases h
    | some i => rw [hi] at h; exact ⟨i, rfl, by simpa using h⟩
  simp [Instr.typeAssert, run_underlying under_app, go_sem, Result.andThen, zeroValue, typeInfo, hi, hz]

set_option maxRecDepth 100000 in
set_option maxHeartbeats 1600000 in
theorem kidsOf_any (u : Value) (T : Tr) (A : Nat → Prop) (p : Nat) (w : World) (ht : TV w A u T) (hA : ∀ b, A b → b < w.heap.size) (hs : p + T.size ≤ 4611686018427387904) (hl : T.size * 8 ≤ 140737488355328) :
    Calls Tryd.prog 37 #[u, .int .i64 p] w fun e w' => ∃ v', e = .returned v' ∧ OwI w' w.heap.size v' (kidsR p T) ∧ Below w.heap.size w w' := by
  cases T with
  | var =>
    unfold TV at ht
    subst ht
    have has := as_not
    go_enter Tryd.func37, Tryd.ntmps37
    go_wp2
    go_ret
    exact ⟨_, rfl, ⟨fun k x hk => (by simp [kidsR] at hk), World.ownsRow_nil _ _ _ _⟩, Below.refl _ _⟩
  | app ts =>
    unfold TV at ht
    obtain ⟨b, a, cp, rfl, hb, h3, h4, h5, h6, h7⟩ := ht
    simp only [Tr.size] at hs hl
    unfold maxLen at h6
    have hbig := len_sizes ts
    have HA := hid hA
    have H7 := hid h7
    have hwp : IntKind.i64.wrap ((p : Int) + 1) = ((p + 1 + sizes (ts.take 0) : Nat) : Int) := by rw [IntWalk.i64_in _ ⟨by omega, by omega⟩]; simp [sizes]
    clear hA h7 h4
    have has := as_app (.pointer (some ⟨b, 0, none⟩)) 54 true
    simp only [if_true] at has
    go_enter Tryd.func37, Tryd.ntmps37
    go_wp2
    clear has hwp
    go_loopw [7, 8, 25] (fun x pv iv wr => ∃ k : Nat, k ≤ ts.length ∧ iv = .int .i64 k ∧ pv = .int .i64 ((p + 1 + sizes (ts.take k) : Nat) : Int) ∧ OwI wr w.heap.size x (kidsGo (p + 1) (ts.take k)) ∧ Below w.heap.size w wr) (fun _ _ iv _ => ts.length - (intOf iv).toNat)
    case atStart => exact ⟨0, Nat.zero_le _, rfl, rfl, ⟨fun k x hk => (by simp [kidsGo] at hk), World.ownsRow_nil _ _ _ _⟩, Below.refl _ _⟩
    case round =>
      obtain ⟨k, hk, rfl, rfl, how, hbl⟩ := hrel
      have HOw := hid how
      have HBl := hid hbl
      clear how hbl
      by_cases hlt : k < ts.length
      · obtain ⟨t, htk⟩ : ∃ t, ts[k]? = some t := ⟨_, List.getElem?_eq_getElem hlt⟩
        obtain ⟨g, off, rfl, hAg, htvs⟩ : ∃ g off, a = some ⟨g, off, none⟩ ∧ A g ∧ TVs w A g off ts := by
          rcases H7.out with h | h
          · rw [h] at hlt; simp at hlt
          · exact h
        obtain ⟨u, hcu, htv⟩ := htvs.get htk
        have hcur := (HBl.out.cell (p := ⟨g, off + k, none⟩) (HA.out g hAg)).trans hcu
        have hst := sizes_take ts (k + 1)
        have hsn : sizes (ts.take (k + 1)) = sizes (ts.take k) + t.size := by rw [take_get htk, sizes_app]; simp [sizes]
        have HSn := hid hsn
        have hkn : kidsGo (p + 1) (ts.take (k + 1)) = kidsGo (p + 1) (ts.take k) ++ [((p + 1 + sizes (ts.take k) : Nat) : Int)] := by rw [take_get htk, kidsGo_app]; simp [kidsGo]
        have HKn := hid hkn
        have hlenk : (kidsGo (p + 1) (ts.take k)).length = k := by rw [kidsGo_len, List.length_take]; omega
        have HSg := hid HBl.out.size
        obtain ⟨S, hS⟩ : ∃ S, S = sizes (ts.take k) := ⟨_, rfl⟩
        rw [← hS] at hsn HSn HKn ⊢
        obtain ⟨v6, w6, hr6, ho6, hg6, _⟩ := join_one 27 (c := ((p + 1 + S : Nat) : Int)) HOw.out (by omega) (by omega) HBl.out.size (by rw [hlenk]; omega)
        have hb6 := (below_step HBl.out (below_alloc _)).grown hg6 (Nat.le_trans HBl.out.size (below_alloc _).size) (fun j hj => own_blk HOw.out.2 hj)
        have HR6 := hid hr6
        have HO6 := hid (HKn.out ▸ ho6)
        have HB6 := hid hb6
        clear hS htk hkn hr6 ho6 hg6 hb6 hcu htvs hlenk
        cases t with
        | var =>
          unfold TV at htv
          subst htv
          simp only [Tr.size] at hsn HSn
          go_wp2_with (first
            | (at_builtin; refine wpList_append_run rfl _ _ _ rfl _ _ rfl rfl HR6.out ?_))
          refine (varNodes_any w6).mono ?_
          rintro e w2 ⟨rfl, hb2⟩
          have hwr : IntKind.i64.wrap ((p : Int) + 1 + S + 1) = ((p + 1 + (S + 1) : Nat) : Int) := by rw [IntWalk.i64_in _ ⟨by omega, by omega⟩]; omega
          have HO2 := hid (HO6.out.later hb2)
          have HB2 := hid (below_step HB6.out hb2)
          clear hb2
          go_wp2
          go_roundw
          case rel => exact ⟨k + 1, by omega, by go_num, by rw [HSn.out]; exact congrArg (Value.int .i64) (by omega), HO2.out, HB2.out⟩
          case measure => simp [intOf]; omega
        | app rs =>
          unfold TV at htv
          obtain ⟨b2, a2, cp2, rfl, hb2, _, h4, _, _, _⟩ := htv
          have h4r := (HB6.out.cell (p := ⟨b2, 1, none⟩) (HA.out b2 hb2)).trans h4
          simp only [Tr.size] at hsn HSn
          have hwr : IntKind.i64.wrap ((p : Int) + 1 + S + ((1 + sizes rs : Nat) : Int)) = ((p + 1 + (S + (1 + sizes rs)) : Nat) : Int) := by rw [IntWalk.i64_in _ ⟨by omega, by omega⟩]; omega
          go_wp2_with (first
            | (at_builtin; refine wpList_append_run rfl _ _ _ rfl _ _ rfl rfl HR6.out ?_))
          refine (appNodes_any b2 _ w6 h4r).mono ?_
          rintro e w2 ⟨rfl, hw2⟩
          have hw8 := hw2.symm
          subst hw8
          clear hw2
          go_wp2
          go_roundw
          case rel => exact ⟨k + 1, by omega, by go_num, by rw [HSn.out]; exact congrArg (Value.int .i64) (by omega), HO6.out, HB6.out⟩
          case measure => simp [intOf]; omega
      · have hke : k = ts.length := by omega
        subst hke
        rw [List.take_length] at HOw
        go_wp2
        go_ret
        exact ⟨_, rfl, HOw.out, HBl.out⟩

end Go.Proofs.YtjcgngfidnechaaDoor
