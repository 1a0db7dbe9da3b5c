/- Texts of the proof, one behind the other. -/
import Derived.Test.YtjcgngfidnechaaDoorOwn8
import Derived.Test.YtjcgngfidnechaaDoorOwn1
import Derived.Test.YtjcgngfidnechaaDoorRows
import Derived.ProofKit
import Derived.OpenShut
import Derived.SizedLaws
import Derived.Handed
import Derived.LaidLaws
import Derived.LaidHandle
import Derived.MakeChecks
import Derived.Stop.Joined
import Derived.Lib.LaidIn
import Derived.Lib.LaidU8T
import Derived.ShutString
import Derived.ChangeOld
import Derived.Deep.Slices
import Derived.DeepKeys4
import Derived.Test.YtjcgngfidnechaaDoorOwn3
import Derived.Deep.SlicePairs
/- What stands at a place, below it and above it, is the document's: TermPlaces walked for every row of at most so many codes, every place. -/
namespace Go.Proofs.YtjcgngfidnechaaDoor
open Go.RowKit Go.Maps Go.BigFrame

theorem kids_len (sig : List Sy) (t : List Int) (p : Int) : (kidsL sig t p).length ≤ t.length := by
  by_cases h : placeE sig t p = 0
  · obtain ⟨ha, hr, k, m, hk, hkl, hm1, hend, hkm, hsub, hrow⟩ := placeE_ok h
    unfold kidsL
    rw [hsub]
    obtain ⟨T, hT, hsz⟩ := grow_one ha hrow
    rw [hT]
    simp only
    rw [List.length_take, List.length_drop] at hsz
    cases T with
    | var => simp [kidsR]
    | app ts =>
      have := len_sizes ts
      simp only [Tr.size] at hsz
      simp only [kidsR, kidsGo_len]
      omega
  · rw [kidsL_bad h]
    simp

theorem sub_len (sig : List Sy) (t : List Int) (p : Int) : (subL sig t p).length ≤ t.length := by
  unfold subL
  split
  · rw [List.length_take, List.length_drop]
    omega
  · simp

theorem above_len (sig : List Sy) (t : List Int) (p : Int) : (aboveL sig t p).length ≤ t.length := by
  by_cases h : placeE sig t p = 0
  · obtain ⟨_, _, k, _, hk, hkl, _⟩ := placeE_ok h
    subst hk
    unfold aboveL
    rw [if_pos h, List.length_map, Int.toNat_natCast]
    unfold abD
    refine Nat.le_trans (List.length_filter_le _ _) ?_
    rw [List.length_range]
    omega
  · unfold aboveL
    rw [if_neg h]
    simp

set_option maxRecDepth 100000 in
set_option maxHeartbeats 3200000 in
theorem termPlaces_any (sv v : Value) (sig : List Sy) (t : List Int) (p : Int) (w : World) (hs : Sg w sv sig) (h : Is w v t) (hT : Tabs w) (hb : t.length * 16 ≤ 140737488351232) (hp1 : -9223372036854775808 ≤ p) (hp2 : p ≤ 9223372036854775807) :
    Calls Tryd.prog 5 #[sv, v, .int .i64 p] w fun e w' => e = .returned (.bool true) ∧ Below w.heap.size w w' := by
  have HS := hid hs
  have HT := hid hT
  have HI := hid h
  have HKl := hid (kids_len sig t p)
  have HUl := hid (sub_len sig t p)
  have HVl := hid (above_len sig t p)
  clear hs hT h
  go_enter Tryd.func5, Tryd.ntmps5
  go_wp2_with fail
  refine (shown3_any w HT.out).mono ?_
  rintro e w1 ⟨rfl, hb1⟩
  have C1 := hid hb1
  clear hb1
  go_wp2_with fail
  refine (lent_any v t w1 (HI.out.kp (Kp.of_below C1.out)) (by omega)).mono ?_
  rintro e w2 ⟨g, rfl, ho, hb2⟩
  have C2 := hid hb2
  clear hb2
  have OA := hid ho
  have UA : Hid (∀ j, Value.ownBlock (.slice (some ⟨g, 0, none⟩) (t.length + 3) (t.length + 3)) = some j → j < w2.heap.size) := fun j hj => own_blk_lt ho.2 hj
  clear ho
  go_wp2_with fail
  refine (kids_any sv _ sig t p w2 (HS.out.kp (Kp.of_below (below_step C1.out C2.out))) (cutI OA.out) (HT.out.below (below_step C1.out C2.out)) hb hp1 hp2).mono ?_
  rintro e w3 ⟨vk, rfl, ho, hb3⟩
  have C3 := hid hb3
  clear hb3
  have OK := hid ho
  have UK : Hid (∀ j, Value.ownBlock (vk) = some j → j < w3.heap.size) := fun j hj => own_blk_lt ho.2 hj
  clear ho
  go_wp2_with fail
  refine (sub_any sv _ sig t p w3 (HS.out.kp (Kp.of_below (below_step (below_step C1.out C2.out) C3.out))) (cutI (OA.out.later C3.out)) (HT.out.below (below_step (below_step C1.out C2.out) C3.out)) (by omega) hp1 hp2).mono ?_
  rintro e w4 ⟨vu, rfl, ho, hb4⟩
  have C4 := hid hb4
  clear hb4
  have OU := hid ho
  have UU : Hid (∀ j, Value.ownBlock (vu) = some j → j < w4.heap.size) := fun j hj => own_blk_lt ho.2 hj
  clear ho
  go_wp2_with fail
  refine (above_any sv _ sig t p w4 (HS.out.kp (Kp.of_below (below_step (below_step (below_step C1.out C2.out) C3.out) C4.out))) (cutI (OA.out.later (below_step C3.out C4.out))) (HT.out.below (below_step (below_step (below_step C1.out C2.out) C3.out) C4.out)) hb hp1 hp2).mono ?_
  rintro e w5 ⟨vv, rfl, ho, hb5⟩
  have C5 := hid hb5
  clear hb5
  have OV := hid ho
  have UV : Hid (∀ j, Value.ownBlock (vv) = some j → j < w5.heap.size) := fun j hj => own_blk_lt ho.2 hj
  clear ho
  go_wp2_with fail
  refine (refKids_any sv v sig t p w5 (HS.out.kp (Kp.of_below (below_step (below_step (below_step (below_step C1.out C2.out) C3.out) C4.out) C5.out))) (HI.out.kp (Kp.of_below (below_step (below_step (below_step (below_step C1.out C2.out) C3.out) C4.out) C5.out))) (by omega) hp1 hp2).mono ?_
  rintro e w6 ⟨vx, rfl, ho, hb6⟩
  have C6 := hid hb6
  clear hb6
  have OX := hid ho
  have UX : Hid (∀ j, Value.ownBlock (vx) = some j → j < w6.heap.size) := fun j hj => own_blk_lt ho.2 hj
  clear ho
  go_wp2_with fail
  refine (refSub_any sv v sig t p w6 (HS.out.kp (Kp.of_below (below_step (below_step (below_step (below_step (below_step C1.out C2.out) C3.out) C4.out) C5.out) C6.out))) (HI.out.kp (Kp.of_below (below_step (below_step (below_step (below_step (below_step C1.out C2.out) C3.out) C4.out) C5.out) C6.out))) (by omega) hp1 hp2).mono ?_
  rintro e w7 ⟨vy, rfl, ho, hb7⟩
  have C7 := hid hb7
  clear hb7
  have OY := hid ho
  have UY : Hid (∀ j, Value.ownBlock (vy) = some j → j < w7.heap.size) := fun j hj => own_blk_lt ho.2 hj
  clear ho
  go_wp2_with fail
  refine (refAbove_any sv v sig t p w7 (HS.out.kp (Kp.of_below (below_step (below_step (below_step (below_step (below_step (below_step C1.out C2.out) C3.out) C4.out) C5.out) C6.out) C7.out))) (HI.out.kp (Kp.of_below (below_step (below_step (below_step (below_step (below_step (below_step C1.out C2.out) C3.out) C4.out) C5.out) C6.out) C7.out))) (by omega) hp1 hp2).mono ?_
  rintro e w8 ⟨vz, rfl, ho, hb8⟩
  have C8 := hid hb8
  clear hb8
  have OZ := hid ho
  have UZ : Hid (∀ j, Value.ownBlock (vz) = some j → j < w8.heap.size) := fun j hj => own_blk_lt ho.2 hj
  clear ho
  go_wp2_with fail
  refine (same3_any vk vx _ _ w8 (OK.out.later (below_step (below_step (below_step (below_step C4.out C5.out) C6.out) C7.out) C8.out)).is (OX.out.later (below_step C7.out C8.out)).is).mono ?_
  rintro e w9 ⟨rfl, n9, hw9⟩
  have C9 := hid (drawn_below hw9)
  rw [decide_eq_true rfl]
  clear hw9
  go_wp2_with fail
  refine (same3_any vu vy _ _ w9 (OU.out.later (below_step (below_step (below_step (below_step C5.out C6.out) C7.out) C8.out) C9.out)).is (OY.out.later (below_step C8.out C9.out)).is).mono ?_
  rintro e w10 ⟨rfl, n10, hw10⟩
  have C10 := hid (drawn_below hw10)
  rw [decide_eq_true rfl]
  clear hw10
  go_wp2_with fail
  refine (same3_any vv vz _ _ w10 (OV.out.later (below_step (below_step (below_step (below_step C6.out C7.out) C8.out) C9.out) C10.out)).is (OZ.out.later (below_step C9.out C10.out)).is).mono ?_
  rintro e w11 ⟨rfl, n11, hw11⟩
  have C11 := hid (drawn_below hw11)
  rw [decide_eq_true rfl]
  clear hw11
  have S1 := hid C1.out.size
  have S2 := hid C2.out.size
  have S3 := hid C3.out.size
  have S4 := hid C4.out.size
  have S5 := hid C5.out.size
  have S6 := hid C6.out.size
  have HSp := hid (spoil_any vk (kidsL sig t p) _ w11 (OK.out.later (below_step (below_step (below_step (below_step (below_step (below_step (below_step C4.out C5.out) C6.out) C7.out) C8.out) C9.out) C10.out) C11.out)) (below_step (below_step (below_step (below_step (below_step (below_step (below_step (below_step C3.out C4.out) C5.out) C6.out) C7.out) C8.out) C9.out) C10.out) C11.out).size (by have := HKl.out; omega))
  go_wp2_with fail
  refine HSp.out.mono ?_
  rintro e w12 ⟨rfl, hg12⟩
  have R12 : Hid (w2.heap.size ≤ w12.heap.size ∧ w3.heap.size ≤ w12.heap.size ∧ w4.heap.size ≤ w12.heap.size) := by
    have h2 := (below_step (below_step (below_step (below_step (below_step (below_step (below_step (below_step C3.out C4.out) C5.out) C6.out) C7.out) C8.out) C9.out) C10.out) C11.out).size
    have h3 := (below_step (below_step (below_step (below_step (below_step (below_step (below_step C4.out C5.out) C6.out) C7.out) C8.out) C9.out) C10.out) C11.out).size
    have h4 := (below_step (below_step (below_step (below_step (below_step (below_step C5.out C6.out) C7.out) C8.out) C9.out) C10.out) C11.out).size
    have h5 := hg12.size
    exact ⟨by omega, by omega, by omega⟩
  have PA := hid ((OA.out.later (below_step (below_step (below_step (below_step (below_step (below_step (below_step (below_step C3.out C4.out) C5.out) C6.out) C7.out) C8.out) C9.out) C10.out) C11.out)).kept hg12 (apart_keep (OA.out.later (below_step (below_step (below_step (below_step (below_step (below_step (below_step (below_step C3.out C4.out) C5.out) C6.out) C7.out) C8.out) C9.out) C10.out) C11.out)) (fun j hj => Nat.lt_of_lt_of_le (UA.out j hj) (Nat.le_refl _)) (OK.out.later (below_step (below_step (below_step (below_step (below_step (below_step (below_step C4.out C5.out) C6.out) C7.out) C8.out) C9.out) C10.out) C11.out))))
  have PU := hid ((OU.out.later (below_step (below_step (below_step (below_step (below_step (below_step C5.out C6.out) C7.out) C8.out) C9.out) C10.out) C11.out)).kept hg12 (apart_keep2 (OK.out.later (below_step (below_step (below_step (below_step (below_step (below_step (below_step C4.out C5.out) C6.out) C7.out) C8.out) C9.out) C10.out) C11.out)) (fun j hj => Nat.lt_of_lt_of_le (UK.out j hj) (Nat.le_refl _)) (OU.out.later (below_step (below_step (below_step (below_step (below_step (below_step C5.out C6.out) C7.out) C8.out) C9.out) C10.out) C11.out))))
  have PV := hid ((OV.out.later (below_step (below_step (below_step (below_step (below_step C6.out C7.out) C8.out) C9.out) C10.out) C11.out)).kept hg12 (apart_keep2 (OK.out.later (below_step (below_step (below_step (below_step (below_step (below_step (below_step C4.out C5.out) C6.out) C7.out) C8.out) C9.out) C10.out) C11.out)) (fun j hj => Nat.lt_of_lt_of_le (UK.out j hj) S4.out) (OV.out.later (below_step (below_step (below_step (below_step (below_step C6.out C7.out) C8.out) C9.out) C10.out) C11.out))))
  have PY := hid ((OY.out.later (below_step (below_step (below_step C8.out C9.out) C10.out) C11.out)).kept hg12 (apart_keep2 (OK.out.later (below_step (below_step (below_step (below_step (below_step (below_step (below_step C4.out C5.out) C6.out) C7.out) C8.out) C9.out) C10.out) C11.out)) (fun j hj => Nat.lt_of_lt_of_le (UK.out j hj) (Nat.le_trans (Nat.le_trans S4.out S5.out) S6.out)) (OY.out.later (below_step (below_step (below_step C8.out C9.out) C10.out) C11.out))))
  have B12 : Hid (Below w.heap.size w w12) := (below_step (below_step (below_step (below_step (below_step (below_step (below_step (below_step (below_step (below_step C1.out C2.out) C3.out) C4.out) C5.out) C6.out) C7.out) C8.out) C9.out) C10.out) C11.out).grown hg12 (below_step (below_step (below_step (below_step (below_step (below_step (below_step (below_step (below_step (below_step C1.out C2.out) C3.out) C4.out) C5.out) C6.out) C7.out) C8.out) C9.out) C10.out) C11.out).size (fun j hj => Nat.le_trans (Nat.le_trans S1.out S2.out) (own_blk (OK.out.later (below_step (below_step (below_step (below_step (below_step (below_step (below_step C4.out C5.out) C6.out) C7.out) C8.out) C9.out) C10.out) C11.out)).2 hj))
  clear HSp hg12 OK OA OU OV OY
  have OA := PA
  clear PA
  have OU := PU
  clear PU
  have OV := PV
  clear PV
  have OY := PY
  clear PY
  have HSp := hid (spoil_any vu (subL sig t p) _ w12 OU.out R12.out.2.1 (by have := HUl.out; omega))
  go_wp2_with fail
  refine HSp.out.mono ?_
  rintro e w13 ⟨rfl, hg13⟩
  have R13 := hid (Nat.le_trans R12.out.2.2 hg13.size)
  have PA := hid (OA.out.kept hg13 (apart_keep OA.out (fun j hj => Nat.lt_of_lt_of_le (UA.out j hj) S3.out) OU.out))
  have PV := hid (OV.out.kept hg13 (apart_keep2 OU.out (fun j hj => Nat.lt_of_lt_of_le (UU.out j hj) (Nat.le_refl _)) OV.out))
  have PY := hid (OY.out.kept hg13 (apart_keep2 OU.out (fun j hj => Nat.lt_of_lt_of_le (UU.out j hj) (Nat.le_trans S5.out S6.out)) OY.out))
  have B13 : Hid (Below w.heap.size w w13) := B12.out.grown hg13 B12.out.size (fun j hj => Nat.le_trans (Nat.le_trans (Nat.le_trans S1.out S2.out) S3.out) (own_blk OU.out.2 hj))
  clear HSp hg13 OU OA OV OY
  have OA := PA
  clear PA
  have OV := PV
  clear PV
  have OY := PY
  clear PY
  have HSp := hid (spoil_any vv (aboveL sig t p) _ w13 OV.out R13.out (by have := HVl.out; omega))
  go_wp2_with fail
  refine HSp.out.mono ?_
  rintro e w14 ⟨rfl, hg14⟩
  have PA := hid (OA.out.kept hg14 (apart_keep OA.out (fun j hj => Nat.lt_of_lt_of_le (UA.out j hj) (Nat.le_trans S3.out S4.out)) OV.out))
  have PY := hid (OY.out.kept hg14 (apart_keep2 OV.out (fun j hj => Nat.lt_of_lt_of_le (UV.out j hj) S6.out) OY.out))
  have B14 : Hid (Below w.heap.size w w14) := B13.out.grown hg14 B13.out.size (fun j hj => Nat.le_trans (Nat.le_trans (Nat.le_trans (Nat.le_trans S1.out S2.out) S3.out) S4.out) (own_blk OV.out.2 hj))
  clear HSp hg14 OV OA OY
  have OA := PA
  clear PA
  have OY := PY
  clear PY
  go_wp2_with fail
  refine (kept_any g _ v t w14 OA.out (HI.out.kp (Kp.of_below B14.out)) (by omega)).mono ?_
  rintro e w15 ⟨rfl, n15, hw15⟩
  have C15 := hid (drawn_below hw15)
  clear hw15
  go_wp2_with fail
  refine (sub_any sv _ sig t p w15 (HS.out.kp (Kp.of_below (below_step B14.out C15.out))) (cutI (OA.out.later C15.out)) (HT.out.below (below_step B14.out C15.out)) (by omega) hp1 hp2).mono ?_
  rintro e w16 ⟨vq, rfl, ho, hb16⟩
  have C16 := hid hb16
  clear hb16
  have OQ := hid ho
  have UQ : Hid (∀ j, Value.ownBlock (vq) = some j → j < w16.heap.size) := fun j hj => own_blk_lt ho.2 hj
  clear ho
  go_wp2_with fail
  refine (same3_any vq vy _ _ w16 OQ.out.is (OY.out.later (below_step C15.out C16.out)).is).mono ?_
  rintro e w17 ⟨rfl, n17, hw17⟩
  have C17 := hid (drawn_below hw17)
  rw [decide_eq_true rfl]
  clear hw17
  have BF := hid (below_step (below_step (below_step B14.out C15.out) C16.out) C17.out)
  generalize placeE sig t p = E
  have hEE : (E == E) = true := by simp
  go_wp2
  go_ret
  exact ⟨rfl, BF.out⟩

end Go.Proofs.YtjcgngfidnechaaDoor

/- Rows that came in, the tables of the library, the witness. -/
namespace Go.Proofs.YtjcgngfidnechaaDoor
open Go.ChangeShapes Go.WideShapes Go.ChangeAt Go.RowKit Go.Shelf

theorem own : ownKnob Tryd.prog.godebug = none := by kernel_rfl

/-- The tables that the rows list. -/
def laidT : List (String × DataW Unit) := [("unicode/utf8.acceptRanges", Rows.laid_unicode_utf8_acceptRanges), ("unicode/utf8.first", Rows.laid_unicode_utf8_first)]

theorem first_same : Rows.laid_unicode_utf8_first = Lib.firstData := by kernel_rfl
theorem accept_same : (Rows.laid_unicode_utf8_acceptRanges : DataW Unit) = Lib.acceptData := by kernel_rfl

theorem tabs_of_laid {W : World} (h : laidMetH Tryd.prog laidT W) : Tabs W := by
  rw [MakeChecks.laidMetH_plain _ _ _ (by kernel_rfl)] at h
  have h1 := Lib.laidMet.reads h (n := "unicode/utf8.first") (d := Rows.laid_unicode_utf8_first) (.tail _ (.head _))
  have h2 := Lib.laidMet.reads h (n := "unicode/utf8.acceptRanges") (d := Rows.laid_unicode_utf8_acceptRanges) (.head _)
  rw [first_same] at h1
  rw [accept_same] at h2
  exact utf8Tabs_of_readsT (U8Types.of196 Tryd.validLay) ⟨by kernel_rfl, by kernel_rfl, by kernel_rfl, by kernel_rfl, by kernel_rfl, by kernel_rfl, by kernel_rfl⟩ h1 h2

/-- The settled world, with the two tables in it. -/
noncomputable def laidWorld (os : Os) : World :=
  let w0 := World.holding Tryd.prog os ⟨#[], #[], []⟩
  let put (h : Array Obj) (g : Nat) (cs : Array Value) : Array Obj := h.modify g fun
    | .cells _ t frozen => .cells cs t frozen
    | o => o
  let h1 := put w0.heap 0 (Lib.firstTab.map fun z => Value.int .u8 z).toArray
  let h2 := put h1 1 ((List.range 16).flatMap fun i => [Value.int .u8 (Lib.accLo i), Value.int .u8 (Lib.accHi i)]).toArray
  { w0 with heap := h2 }

theorem door_met (os : Os) (args : Array Value) : laidMetH Tryd.prog laidT ((laidWorld os).forCall (fun _ _ => 0) ⟨#[], args, []⟩).memory := by
  rw [MakeChecks.laidMetH_plain _ _ _ (by kernel_rfl)]
  exact laidMet_of_run' 8 (by kernel_rfl) (by kernel_rfl)

end Go.Proofs.YtjcgngfidnechaaDoor

/- Rows of ints that came in, as a row of the claim reads them. -/
namespace Go.Proofs.YtjcgngfidnechaaDoor
open Go.ChangeShapes Go.WideShapes Go.ChangeAt Go.RowKit Go.Deep Go.Maps

theorem spot_none {w : World} {a : Addr} {v : Value} (h : w.cell? (a.add 0) = some v) : ∃ g off, a = ⟨g, off, none⟩ ∧ g < w.heap.size := by
  obtain ⟨b, off, spot⟩ := a
  have hspot : spot = none := by simpa [Addr.add] using World.cell?_spot h
  subst hspot
  refine ⟨b, off, rfl, ?_⟩
  rw [Addr.add_lit] at h
  exact World.block_lt_of_cell? w _ h

theorem weight_head {H : Type} {P : Program} {t e : TypeId} {d : DataW H} {elems spare : List (DataW H)} (hd : d = .slice elems spare) (hu : P.underlying t = some (.slice e)) : (elems.length + spare.length) * P.bytesOf e ∈ d.weights P t := by
  subst hd
  simp [DataW.weights, hu]

theorem open_nums {H : Type} {enc : TypeId × Value → H} {W : World} {base fuel : Nat} {held : Bool} {cs : List Value} {x : DataW H × List MemPlace}
    (h : DataW.trod enc Tryd.prog W base (fun _ => true) held fuel 27 cs = some x) : ∃ v xs, cs = [v] ∧ Is W v xs ∧ ∀ R, (∀ n ∈ x.1.weights Tryd.prog 27, n ≤ R) → xs.length * 8 ≤ R := by
  rcases open_ints Tryd.underlying27 Tryd.underlying3 (by kernel_rfl) h with ⟨rfl, _⟩ | ⟨a, len, cap, zs, rfl, _, hl, hm, hz, hx, hcell, hwz⟩
  · exact ⟨_, [], rfl, Row.nil (by simp [maxLen]), by simp⟩
  · simp only [if_true] at hz
    have hlen : (zs.take len).length = len := by simp; omega
    have hfit : ∀ R, (∀ n ∈ x.1.weights Tryd.prog 27, n ≤ R) → len * 8 ≤ R := by
      intro R hR
      have := hR _ (weight_head (by rw [hx]) Tryd.underlying27)
      rw [show Tryd.prog.bytesOf 3 = 8 by kernel_rfl] at this
      simp only [lits, List.length_map, List.length_take, List.length_drop] at this
      omega
    refine ⟨_, zs.take len, rfl, ⟨some a, cap, by rw [hlen], by omega, hm, fun h0 => ?_⟩, by rw [hlen]; exact hfit⟩
    rw [hlen] at h0
    obtain ⟨g, off, rfl, hg⟩ := spot_none (hcell 0 (by omega))
    refine ⟨g, off, rfl, hg, fun k y hk => ?_⟩
    have hkl : k < len := by have := (List.getElem?_eq_some_iff.1 hk).1; omega
    have h1 := hcell k (by omega)
    rw [Addr.add_lit] at h1
    have hkz : k < zs.length := by omega
    have h2 := bounds_i64 (hwz zs[k] (List.getElem_mem hkz))
    rw [List.getElem?_take_of_lt hkl, List.getElem?_eq_getElem hkz, Option.some.injEq] at hk
    rw [List.getD_eq_getElem?_getD, List.getElem?_eq_getElem hkz, Option.getD_some] at h1
    subst hk
    rw [Nat.mul_one]
    exact ⟨by omega, by omega, h1⟩

end Go.Proofs.YtjcgngfidnechaaDoor

/- Signatures, binds and lists of rows that came in, as a row of the claim reads them. -/
namespace Go.Proofs.YtjcgngfidnechaaDoor
open Go.ChangeShapes Go.WideShapes Go.ChangeAt Go.RowKit Go.Deep Go.Maps

theorem weight_all {H : Type} {P : Program} {e : TypeId} {d : DataW H} {n : Nat} : ∀ {l : List (DataW H)}, d ∈ l → n ∈ d.weights P e → n ∈ DataW.weightsAll P e l
  | [], h, _ => by cases h
  | x :: r, h, hn => by
    unfold DataW.weightsAll
    rcases List.mem_cons.1 h with rfl | h
    · exact List.mem_append_left _ hn
    · exact List.mem_append_right _ (weight_all h hn)

theorem weight_elem {H : Type} {P : Program} {t e : TypeId} {d y : DataW H} {n : Nat} {elems spare : List (DataW H)} (hd : d = .slice elems spare) (hu : P.underlying t = some (.slice e)) (hy : y ∈ elems) (hn : n ∈ y.weights P e) : n ∈ d.weights P t := by
  subst hd
  have := weight_all hy hn
  simp [DataW.weights, hu, this]

theorem weight_agg {H : Type} {P : Program} {t u : TypeId} {fs : Array Field} {parts : List (DataW H)} {y : DataW H} {j n : Nat} (hu : P.underlying t = some (.struct fs)) (hj : (fs.toList.map (·.type))[j]? = some u) (hp : parts[j]? = some y) (hn : n ∈ y.weights P u) : n ∈ (DataW.agg parts).weights P t := by
  have := DataW.weights_mem_each hj hp n hn
  simp [DataW.weights, hu, this]

theorem open_syms {H : Type} {enc : TypeId × Value → H} {W : World} {base fuel : Nat} {held : Bool} {cs : List Value} {x : DataW H × List MemPlace}
    (h : DataW.trod enc Tryd.prog W base (fun _ => true) held fuel 22 cs = some x) : ∃ v p, cs = [v] ∧ Sg W v p := by
  rcases open_slice_pairs Tryd.underlying22 Tryd.underlying40 (by kernel_rfl) rfl rfl (by kernel_rfl) (by kernel_rfl) h with ⟨rfl, _⟩ | ⟨a, len, cap, m, n, V0, V1, D0, D1, P0, P1, rfl, _, hl, hm, hmm, hx, hall⟩
  · exact ⟨_, [], rfl, Row.nil (by simp [maxLen])⟩
  · simp only [if_true] at hmm
    have each : ∀ i, i < m → ∃ q : Sy, V0 i = .string q.1 ∧ V1 i = .int .i64 q.2 ∧ q.1.size ≤ maxLen ∧ -9223372036854775808 ≤ q.2 ∧ q.2 ≤ 9223372036854775807 := by
      intro i hi
      obtain ⟨_, _, t0, t1⟩ := hall i hi
      obtain ⟨s, e0, _, hs⟩ := DataW.trod_string Tryd.underlying9 t0
      obtain ⟨z, e1, _, hz⟩ := DataW.trod_int Tryd.underlying3 t1
      have hb := bounds_i64 hz
      simp only [List.cons.injEq, and_true] at e0 e1
      exact ⟨(s, z), e0, e1, hs, by omega, by omega⟩
    obtain ⟨q, hq⟩ := choose_lt each
    have hlen : ((List.range len).map q).length = len := by simp
    refine ⟨_, (List.range len).map q, rfl, some a, cap, by rw [hlen], by omega, hm, fun h0 => ?_⟩
    rw [hlen] at h0
    obtain ⟨g, off, rfl, hg⟩ := spot_none (hall 0 (by omega)).1
    refine ⟨g, off, rfl, hg, fun k y hk => ?_⟩
    have hkl : k < len := by have := (List.getElem?_eq_some_iff.1 hk).1; omega
    obtain ⟨h0, h1, _⟩ := hall k (by omega)
    rw [Addr.add_lit] at h0 h1
    obtain ⟨e0, e1, e2, e3, e4⟩ := hq k (by omega)
    simp only [List.getElem?_map, List.getElem?_range hkl, Option.map_some, Option.some.injEq] at hk
    subst hk
    exact ⟨e3, e4, e2, by rw [h0, e0], by rw [Nat.add_assoc, h1, e1]⟩

theorem bulk_one {H : Type} (d : DataW H) : 1 ≤ Rows.uptoBulk d := by
  cases d with
  | lit l => cases l <;> simp [Rows.uptoBulk]
  | nil => simp [Rows.uptoBulk]
  | ptr d => simp [Rows.uptoBulk]
  | slice elems spare => simp [Rows.uptoBulk]
  | agg parts => simp [Rows.uptoBulk]
  | iface t d => simp [Rows.uptoBulk]
  | map entries => simp [Rows.uptoBulk]
  | held h => simp [Rows.uptoBulk]

theorem bulk_len {H : Type} : ∀ l : List (DataW H), l.length ≤ Rows.uptoBulkAll l
  | [] => by simp [Rows.uptoBulkAll]
  | x :: r => by
    have := bulk_one x
    have := bulk_len r
    simp only [Rows.uptoBulkAll, List.length_cons]
    omega

theorem bulk_elems {H : Type} {d : DataW H} {elems spare : List (DataW H)} (h : d = .slice elems spare) : Rows.uptoBulkAll elems ≤ Rows.uptoBulk d := by
  subst h
  simp only [Rows.uptoBulk]
  omega

theorem bulk_nums {H : Type} {enc : TypeId × Value → H} {W : World} {base fuel : Nat} {held : Bool} {v : Value} {xs : List Int} {x : DataW H × List MemPlace}
    (h : DataW.trod enc Tryd.prog W base (fun _ => true) held fuel 27 [v] = some x) (hi : Is W v xs) : xs.length ≤ Rows.uptoBulk x.1 := by
  rcases open_ints Tryd.underlying27 Tryd.underlying3 (by kernel_rfl) h with ⟨e, _⟩ | ⟨a, len, cap, zs, e, _, hl, hm, hz, hx, _⟩
  · simp only [List.cons.injEq, and_true] at e
    subst e
    have := Row.len hi
    omega
  · simp only [List.cons.injEq, and_true] at e
    subst e
    simp only [if_true] at hz
    have h1 := Row.len hi
    have h2 := bulk_elems (d := x.1) (by rw [hx])
    have h3 := bulk_len (lits (H := H) .i64 (zs.take len))
    simp only [lits, List.length_map, List.length_take] at h3
    have h4 : Rows.uptoBulkAll (lits (H := H) .i64 (zs.take len)) ≤ Rows.uptoBulk x.1 := h2
    simp only [lits] at h4
    omega

theorem sum_bulk {H : Type} (q : Nat → List Int) (D : Nat → DataW H) : ∀ L : List Nat, (∀ i ∈ L, (q i).length ≤ Rows.uptoBulk (D i)) → ((L.map q).map List.length).sum ≤ Rows.uptoBulkAll (L.map D)
  | [], _ => by simp [Rows.uptoBulkAll]
  | i :: L, h => by
    have h1 := h i (.head _)
    have h2 := sum_bulk q D L (fun j hj => h j (.tail _ hj))
    simp only [List.map_cons, List.sum_cons, Rows.uptoBulkAll]
    omega

theorem open_rows {H : Type} {enc : TypeId × Value → H} {W : World} {base fuel : Nat} {held : Bool} {cs : List Value} {x : DataW H × List MemPlace}
    (h : DataW.trod enc Tryd.prog W base (fun _ => true) held fuel 77 cs = some x) (hR : ∀ n ∈ x.1.weights Tryd.prog 77, n ≤ 140737488351232) : ∃ v l, cs = [v] ∧ Rs W v l ∧ l.length * 24 ≤ 140737488351232 ∧ (l.map List.length).sum ≤ Rows.uptoBulk x.1 ∧ l.length ≤ Rows.uptoBulk x.1 := by
  rcases open_slice1 Tryd.underlying77 (by kernel_rfl) h with ⟨rfl, _⟩ | ⟨a, len, cap, m, n, V, D, Pl, rfl, _, hl, hm, hmm, hx, hall⟩
  · exact ⟨_, [], rfl, Row.nil (by simp [maxLen]), by simp, by simp, by simp⟩
  · simp only [if_true] at hmm
    have each : ∀ i, i < m → ∃ q : List Int, Is W (V i) q ∧ (∀ R, (∀ n ∈ (D i).weights Tryd.prog 27, n ≤ R) → q.length * 8 ≤ R) ∧ q.length ≤ Rows.uptoBulk (D i) := by
      intro i hi
      obtain ⟨v0, c, e0, hc, hf⟩ := open_nums (hall i hi).2
      simp only [List.cons.injEq, and_true] at e0
      subst e0
      exact ⟨c, hc, hf, bulk_nums (hall i hi).2 hc⟩
    obtain ⟨q, hq⟩ := choose_lt each
    have hlen : ((List.range len).map q).length = len := by simp
    have hx1 : x.1 = .slice ((List.range len).map D) ((List.range (m - len)).map fun j => D (len + j)) := by rw [hx]
    have hfit : len * 24 ≤ 140737488351232 := by
      have := hR _ (weight_head hx1 Tryd.underlying77)
      rw [show Tryd.prog.bytesOf 27 = 24 by kernel_rfl] at this
      simp only [List.length_map, List.length_range] at this
      omega
    have hb1 := bulk_elems hx1
    have hb2 := sum_bulk q D (List.range len) (fun i hi => (hq i (by have := List.mem_range.1 hi; omega)).2.2)
    have hb3 := bulk_len ((List.range len).map D)
    simp only [List.length_map, List.length_range] at hb3
    refine ⟨_, (List.range len).map q, rfl, ⟨some a, cap, by rw [hlen], by omega, hm, fun h0 => ?_⟩, by rw [hlen]; exact hfit, by omega, by rw [hlen]; omega⟩
    rw [hlen] at h0
    obtain ⟨g, off, rfl, hg⟩ := spot_none (hall 0 (by omega)).1
    refine ⟨g, off, rfl, hg, fun k y hk => ?_⟩
    have hkl : k < len := by have := (List.getElem?_eq_some_iff.1 hk).1; omega
    have h0 := (hall k (by omega)).1
    rw [Addr.add_lit] at h0
    simp only [List.getElem?_map, List.getElem?_range hkl, Option.map_some, Option.some.injEq] at hk
    subst hk
    rw [Nat.mul_one]
    exact ⟨(hq k (by omega)).2.1 _ fun n hn => hR n (weight_elem hx1 Tryd.underlying77 (List.mem_map.2 ⟨k, List.mem_range.2 hkl, rfl⟩) hn), V k, h0, (hq k (by omega)).1⟩

end Go.Proofs.YtjcgngfidnechaaDoor
