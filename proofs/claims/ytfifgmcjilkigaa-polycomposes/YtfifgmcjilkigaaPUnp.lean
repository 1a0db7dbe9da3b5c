/- A row of bytes as exponents again. -/
import Derived.Test.YtfifgmcjilkigaaPArr
import Derived.Test.YtfifgmcjilkigaaPOwn
namespace Go.Proofs.Ytfifgmcjilkigaa
open Go.RowKit

/-- How many there are up to the last that is not 0. -/
def topK (ks : List Nat) : Nat := (ks.reverse.dropWhile (· == 0)).length

def unX (ks : List Nat) : List Int := (ks.take (topK ks)).map Int.ofNat

theorem topK_eq {ks : List Nat} {n : Nat} (hn : n ≤ ks.length) (h0 : ∀ j, n ≤ j → j < ks.length → ks[j]? = some 0) (h1 : n = 0 ∨ ∃ x, ks[n - 1]? = some x ∧ ¬ x = 0) : topK ks = n := by
  have hsplit : ks = ks.take n ++ List.replicate (ks.length - n) 0 := by
    apply List.ext_getElem?
    intro j
    by_cases hj : j < n
    · rw [List.getElem?_append_left (by simp; omega), List.getElem?_take_of_lt hj]
    · rw [List.getElem?_append_right (by simp; omega), List.getElem?_replicate]
      simp only [List.length_take]
      by_cases hj2 : j < ks.length
      · rw [h0 j (by omega) hj2, if_pos (by omega)]
      · rw [if_neg (by omega), List.getElem?_eq_none (by omega)]
  have hrev : ks.reverse = List.replicate (ks.length - n) 0 ++ (ks.take n).reverse := by
    conv => lhs; rw [hsplit]
    rw [List.reverse_append, List.reverse_replicate]
  unfold topK
  rw [hrev, List.dropWhile_append_of_pos (by intro a ha; have := (List.mem_replicate.1 ha).2; simp [this])]
  rcases h1 with rfl | ⟨x, hx, hne⟩
  · simp
  · have hpos : 0 < n ∨ n = 0 := by omega
    rcases hpos with hpos | rfl
    · have ht : ks.take n = ks.take (n - 1) ++ [x] := by
        have := take_get hx
        rwa [show n - 1 + 1 = n by omega] at this
      rw [ht, List.reverse_append]
      have hb : (x == 0) = false := by simpa using hne
      simp only [List.reverse_cons, List.reverse_nil, List.nil_append, List.singleton_append, List.dropWhile_cons, hb, Bool.false_eq_true, if_false, List.length_cons, List.length_reverse, List.length_take]
      omega
    · simp

theorem unX_keyX {es : List Int} (h : es.length ≤ 512) (h0 : ∀ (k : Nat) (x : Int), es[k]? = some x → 0 ≤ x) (h1 : es.length = 0 ∨ ∃ x, es[es.length - 1]? = some x ∧ ¬ x = 0) : unX (keyX es) = es := by
  have ht : topK (keyX es) = es.length := by
    refine topK_eq (by rw [keyX_len h]; exact h) (fun j hj hj2 => keyX_high hj (by rw [keyX_len h] at hj2; exact hj2)) ?_
    rcases h1 with h1 | ⟨x, hx, hne⟩
    · exact .inl h1
    · exact .inr ⟨x.toNat, keyX_get hx, by have := h0 _ _ hx; omega⟩
  unfold unX
  rw [ht]
  unfold keyX
  rw [List.take_left' (by simp), List.map_map]
  apply List.ext_getElem?
  intro k
  rw [List.getElem?_map]
  cases hk : es[k]? with
  | none => rfl
  | some x =>
    have := h0 k x hk
    simp [Function.comp]
    omega

set_option maxRecDepth 100000 in
set_option maxHeartbeats 1600000 in
theorem unpacked_any (ks : List Nat) (w : World) (hk : ks.length = 512) (hb : ∀ (j x : Nat), ks[j]? = some x → x < 256) :
    Calls Try.prog 69 #[.agg (arr ks)] w fun e w' => ∃ v', e = .returned v' ∧ OwI w' w.heap.size v' (unX ks) ∧ Below w.heap.size w w' := by
  obtain ⟨i0, hi, hz0, hz1, hz2⟩ := info_parts info_int
  have HK : Hid (ks.length = 512) := hk
  have HB : Hid (∀ (j x : Nat), ks[j]? = some x → x < 256) := hb
  clear hk hb
  go_enter Try.func69, Try.ntmps69
  go_wp2
  obtain ⟨wb, hwb⟩ : ∃ wb, wb = w.alloc (.cells (arr ks) 70) := ⟨_, rfl⟩
  have HA : Hid (Ar wb w.heap.size ks) := by rw [hwb]; exact Ar.new w ks
  have HBl : Hid (Below w.heap.size w wb) := by rw [hwb]; exact below_alloc _
  have hszb : w.heap.size < wb.heap.size := HA.out.lt
  rw [← hwb]
  clear hwb
  go_loopw [3] (fun i wr => ∃ n : Nat, n ≤ 512 ∧ i = .int .i64 n ∧ (∀ j : Nat, n ≤ j → j < 512 → ks[j]? = some 0) ∧ wr = wb) (fun i _ => (intOf i).toNat)
  case atStart => exact ⟨512, by omega, rfl, fun j h1 h2 => absurd h1 (by omega), rfl⟩
  case round =>
    obtain ⟨n, hn, rfl, hp, hw⟩ := hrel
    have hw' := hw.symm
    subst hw'
    clear hw
    have HP : Hid (∀ j : Nat, n ≤ j → j < 512 → ks[j]? = some 0) := hp
    clear hp
    by_cases hcont : ∃ m, n = m + 1 ∧ ks[m]? = some 0
    · obtain ⟨m, rfl, hx⟩ := hcont
      have hcell := HA.out.cell hx
      have HX : Hid (ks[m]? = some 0) := hx
      have hm5 : m < 512 := by omega
      clear hx
      go_wp2
      go_roundw
      case rel => exact ⟨m, by omega, by go_num, fun j h1 h2 => by
        by_cases hj : j = m
        · subst hj; exact HX.out
        · exact HP.out j (by omega) h2, trivial⟩
      case measure => simp [intOf]
    · have hex : (decide (0 < n) = false ∧ n = 0) ∨ ∃ x, 0 < n ∧ ks[n - 1]? = some x ∧ ((x : Int) == 0) = false ∧ ¬ x = 0 := by
        by_cases hn0 : n = 0
        · exact .inl ⟨by subst hn0; rfl, hn0⟩
        · obtain ⟨x, hx⟩ : ∃ x, ks[n - 1]? = some x := exists_get (by have := HK.out; omega)
          have hx0 : ¬ x = 0 := fun h => hcont ⟨n - 1, by omega, by rw [hx, h]⟩
          exact .inr ⟨x, by omega, hx, by rw [beq_eq_false_iff_ne]; omega, hx0⟩
      have HT : Hid (topK ks = n) := by
        refine topK_eq (by rw [HK.out]; exact hn) (fun j h1 h2 => HP.out j h1 (by rw [HK.out] at h2; exact h2)) ?_
        rcases hex with ⟨_, h⟩ | ⟨x, _, hx, _, hne⟩
        · exact .inl h
        · exact .inr ⟨x, hx, hne⟩
      clear hcont HP
      have hgo : (decide (0 < n) = false) ∨ ∃ x : Nat, 0 < n ∧ wb.cell? ⟨w.heap.size, n - 1, none⟩ = some (.int .u8 (x : Int)) ∧ ((x : Int) == 0) = false := by
        rcases hex with ⟨h, _⟩ | ⟨x, h, hx, hb, _⟩
        · exact .inl h
        · exact .inr ⟨x, h, HA.out.cell hx, hb⟩
      clear hex
      rcases hgo with hgo | ⟨x, hpos, hcell, hb0⟩
      · go_wp2_with (first
          | (at_make; refine wpList_make_full _ rfl _ _ 44 rfl wb.heap.size 3 i0 (.int .i64 0) 1 under_ints hi hz0 hz1 .i64 .i64 _ _ n rfl rfl (by omega) (by omega) (by rw [hz2]; omega) (by unfold maxLen; omega) (Nat.le_refl _) ?_; intro w0 hown0 hgrow0))
        have hb0' : Below wb.heap.size wb w0 := (Below.refl _ _).grown hgrow0 (Nat.le_refl _) (by intro k hk; cases hk)
        have HO : Hid (OwI w0 wb.heap.size (.slice (some ⟨wb.heap.size, 0, none⟩) n n) ((ks.take 0).map Int.ofNat ++ List.replicate (n - 0) 0)) := by
          have := OwI.made hown0
          show OwI _ _ _ _
          simpa using this
        have HB0 : Hid (Below wb.heap.size wb w0) := hb0'
        clear hown0 hgrow0 hb0'
        go_loopw [21] (fun i wr => ∃ k : Nat, k ≤ n ∧ i = .int .i64 k ∧ OwI wr wb.heap.size (.slice (some ⟨wb.heap.size, 0, none⟩) n n) ((ks.take k).map Int.ofNat ++ List.replicate (n - k) 0) ∧ Below wb.heap.size wb wr) (fun i _ => n - (intOf i).toNat)
        case atStart => exact ⟨0, Nat.zero_le _, rfl, HO.out, HB0.out⟩
        case round =>
          obtain ⟨k, hk, rfl, hown, hbl⟩ := hrel
          have HW : Hid (OwI wr wb.heap.size (.slice (some ⟨wb.heap.size, 0, none⟩) n n) ((ks.take k).map Int.ofNat ++ List.replicate (n - k) 0)) := hown
          clear hown HO HB0
          by_cases hlt : k < n
          · obtain ⟨y, hy⟩ : ∃ y, ks[k]? = some y := exists_get (by have := HK.out; omega)
            have hlp : ((ks.take k).map Int.ofNat).length = k := by simp; have := HK.out; omega
            have hw := HW.out
            rw [show n - k = (n - (k + 1)) + 1 by omega, List.replicate_succ] at hw
            obtain ⟨hc1, hf1⟩ := hw.at (k := k) (x := 0) (by rw [List.getElem?_append_right (by omega), hlp, Nat.sub_self]; rfl)
            have hy8 := HB.out k y hy
            have hq := hw.put hbl (Nat.le_refl _) (by simp; have := HK.out; omega) (k := k) (z := (y : Int)) (by omega) (ys := (ks.take (k + 1)).map Int.ofNat ++ List.replicate (n - (k + 1)) 0) (by rw [set_mid _ _ _ _ _ hlp, take_get hy]; simp)
            have HQ : Hid (OwI (wr.setCell ⟨wb.heap.size, k, none⟩ (.int .i64 (y : Int))) wb.heap.size (.slice (some ⟨wb.heap.size, 0, none⟩) n n) ((ks.take (k + 1)).map Int.ofNat ++ List.replicate (n - (k + 1)) 0) ∧ Below wb.heap.size wb (wr.setCell ⟨wb.heap.size, k, none⟩ (.int .i64 (y : Int)))) := hq
            have hcy := (HA.out.later hbl).cell hy
            have hk5 : k < 512 := by omega
            clear hq hw hy hlp
            go_wp2
            go_roundw
            case rel => exact ⟨k + 1, by omega, by go_num, HQ.out.1, HQ.out.2⟩
            case measure => simp [intOf]; omega
          · have hke : k = n := by omega
            subst hke
            have HF : Hid (OwI wr wb.heap.size (.slice (some ⟨wb.heap.size, 0, none⟩) k k) (unX ks)) := by
              have := HW.out
              rw [Nat.sub_self, List.replicate_zero, List.append_nil] at this
              unfold unX
              rw [HT.out]
              exact this
            go_wp2
            go_ret
            exact ⟨_, rfl, HF.out.mono (by omega), below_step HBl.out hbl⟩
      · go_wp2_with (first
          | (at_make; refine wpList_make_full _ rfl _ _ 44 rfl wb.heap.size 3 i0 (.int .i64 0) 1 under_ints hi hz0 hz1 .i64 .i64 _ _ n rfl rfl (by omega) (by omega) (by rw [hz2]; omega) (by unfold maxLen; omega) (Nat.le_refl _) ?_; intro w0 hown0 hgrow0))
        have hb0' : Below wb.heap.size wb w0 := (Below.refl _ _).grown hgrow0 (Nat.le_refl _) (by intro k hk; cases hk)
        have HO : Hid (OwI w0 wb.heap.size (.slice (some ⟨wb.heap.size, 0, none⟩) n n) ((ks.take 0).map Int.ofNat ++ List.replicate (n - 0) 0)) := by
          have := OwI.made hown0
          show OwI _ _ _ _
          simpa using this
        have HB0 : Hid (Below wb.heap.size wb w0) := hb0'
        clear hown0 hgrow0 hb0'
        go_loopw [21] (fun i wr => ∃ k : Nat, k ≤ n ∧ i = .int .i64 k ∧ OwI wr wb.heap.size (.slice (some ⟨wb.heap.size, 0, none⟩) n n) ((ks.take k).map Int.ofNat ++ List.replicate (n - k) 0) ∧ Below wb.heap.size wb wr) (fun i _ => n - (intOf i).toNat)
        case atStart => exact ⟨0, Nat.zero_le _, rfl, HO.out, HB0.out⟩
        case round =>
          obtain ⟨k, hk, rfl, hown, hbl⟩ := hrel
          have HW : Hid (OwI wr wb.heap.size (.slice (some ⟨wb.heap.size, 0, none⟩) n n) ((ks.take k).map Int.ofNat ++ List.replicate (n - k) 0)) := hown
          clear hown HO HB0
          by_cases hlt : k < n
          · obtain ⟨y, hy⟩ : ∃ y, ks[k]? = some y := exists_get (by have := HK.out; omega)
            have hlp : ((ks.take k).map Int.ofNat).length = k := by simp; have := HK.out; omega
            have hw := HW.out
            rw [show n - k = (n - (k + 1)) + 1 by omega, List.replicate_succ] at hw
            obtain ⟨hc1, hf1⟩ := hw.at (k := k) (x := 0) (by rw [List.getElem?_append_right (by omega), hlp, Nat.sub_self]; rfl)
            have hy8 := HB.out k y hy
            have hq := hw.put hbl (Nat.le_refl _) (by simp; have := HK.out; omega) (k := k) (z := (y : Int)) (by omega) (ys := (ks.take (k + 1)).map Int.ofNat ++ List.replicate (n - (k + 1)) 0) (by rw [set_mid _ _ _ _ _ hlp, take_get hy]; simp)
            have HQ : Hid (OwI (wr.setCell ⟨wb.heap.size, k, none⟩ (.int .i64 (y : Int))) wb.heap.size (.slice (some ⟨wb.heap.size, 0, none⟩) n n) ((ks.take (k + 1)).map Int.ofNat ++ List.replicate (n - (k + 1)) 0) ∧ Below wb.heap.size wb (wr.setCell ⟨wb.heap.size, k, none⟩ (.int .i64 (y : Int)))) := hq
            have hcy := (HA.out.later hbl).cell hy
            have hk5 : k < 512 := by omega
            clear hq hw hy hlp
            go_wp2
            go_roundw
            case rel => exact ⟨k + 1, by omega, by go_num, HQ.out.1, HQ.out.2⟩
            case measure => simp [intOf]; omega
          · have hke : k = n := by omega
            subst hke
            have HF : Hid (OwI wr wb.heap.size (.slice (some ⟨wb.heap.size, 0, none⟩) k k) (unX ks)) := by
              have := HW.out
              rw [Nat.sub_self, List.replicate_zero, List.append_nil] at this
              unfold unX
              rw [HT.out]
              exact this
            go_wp2
            go_ret
            exact ⟨_, rfl, HF.out.mono (by omega), below_step HBl.out hbl⟩

end Go.Proofs.Ytfifgmcjilkigaa
