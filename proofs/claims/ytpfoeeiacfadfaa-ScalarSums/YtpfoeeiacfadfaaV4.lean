/-
  Contracts of package wide's Len, Shl, Shr.
  Conditions: numbers below 2^256.
-/
import Derived.Test.YtpfoeeiacfadfaaV1
import Derived.Test.YtpfoeeiacfadfaaAr6
import Derived.Test.YtpfoeeiacfadfaaWd2
namespace Go.Proofs.Ytpfoeeiacfadfaa
open Go.RowKit

set_option maxHeartbeats 1000000 in
theorem len_any (a : Nat) (ha : a < M) (w : World) :
    Calls Try.prog 44 #[wv a] w fun e w' => e = .returned (.int .i64 (blen a : Nat)) ∧ Below w.heap.size w w' := by
  have HW : Hid (∀ i x, i < 4 → gw (w4 a) i = x → x ≠ 0 → (∀ j, i < j → j < 4 → gw (w4 a) j = 0) → blen a = 64 * i + Lib.bitLen x) := fun i x h1 h2 h3 h4 => blen_word a i x ha h1 h2 h3 h4
  have HZ : Hid ((∀ j, 0 ≤ j → j < 4 → gw (w4 a) j = 0) → blen a = 0) := by
    intro h
    obtain ⟨a0, a1, a2, a3, _, _, _, _, ea, wa⟩ := w4_parts a ha
    rw [wa] at h
    have z0 := h 0 (by decide) (by decide); have z1 := h 1 (by decide) (by decide); have z2 := h 2 (by decide) (by decide); have z3 := h 3 (by decide) (by decide)
    simp [gw] at z0 z1 z2 z3
    subst z0 z1 z2 z3
    rw [ea]; rfl
  have HL : Hid (∀ i, gw (w4 a) i < 18446744073709551616) := gw_lt a
  have hl : (w4 a).length = 4 := w4_length a
  unfold wv
  generalize blen a = R at *
  generalize w4 a = l at *
  clear ha
  go_enter Try.func44, Try.ntmps44
  go_wp2_with ((first
    | (refine wpList_box_arr rfl _ (.tmp 0) rfl (c64 l) rfl ?_; intro g1 w1 hg1 ha1 hb1)); try simp only [Act.put, List.setIfInBounds_toArray, List.set_cons_succ, List.set_cons_zero])
  go_loopw [3] (fun i wr => ∃ k : Nat, k ≤ 4 ∧ i = .int .i64 ((k : Int) - 1) ∧ (∀ j, k ≤ j → j < 4 → gw l j = 0) ∧ Arr 24 wr g1 (c64 l) ∧ Below w.heap.size w wr) (fun i _ => (intOf i + 1).toNat)
  case atStart => exact ⟨4, by omega, rfl, fun j h1 h2 => by omega, ha1, hb1⟩
  case round =>
    obtain ⟨k, hk, hi, hz, r1, hb⟩ := hrel
    clear ha1 hb1
    rcases k with _ | j
    · have hi' := hi.trans (show (Value.int .i64 (((0 : Nat) : Int) - 1)) = .int .i64 (-1) from rfl)
      subst hi'
      have hR : Hid (R = 0) := HZ.out hz
      clear hz
      go_wp2
      go_ret
      exact ⟨by rw [hR.out]; rfl, hb⟩
    · have hi' : _ = Value.int .i64 (j : Int) := hi.trans (by congr 1; omega)
      subst hi'
      have hj : j < 4 := by omega
      by_cases hx : gw l j = 0
      · have hz' : Hid (∀ i, j ≤ i → i < 4 → gw l i = 0) := fun i h1 h2 => by
          by_cases h : i = j
          · rw [h]; exact hx
          · exact hz i (by omega) h2
        have hg : (c64 l)[j]? = some (.int .u64 (0 : Nat)) := by rw [c64_gw (by omega), hx]
        clear hz hx
        go_wp2_with ((first
          | (refine wpList_indexAt_arr Try.aw rfl (.tmp 1) (.tmp 8) rfl g1 j .i64 j rfl hj rfl rfl ?_)
          | (refine wpList_get Try.u64 rfl (.tmp 9) rfl g1 j (c64 l) (.int .u64 (0 : Nat)) r1 hg rfl ?_)); try simp only [Act.put, List.setIfInBounds_toArray, List.set_cons_succ, List.set_cons_zero])
        go_roundw
        case rel => exact ⟨j, by omega, by go_num, hz'.out, r1, hb⟩
        case measure => simp [intOf]
      · obtain ⟨x, hxe⟩ : ∃ x, gw l j = x := ⟨_, rfl⟩
        have hxl : x < 18446744073709551616 := hxe ▸ HL.out j
        have hR : Hid (R = 64 * j + Lib.bitLen x) := HW.out j x hj hxe (hxe ▸ hx) hz
        have hg : (c64 l)[j]? = some (.int .u64 (x : Nat)) := by rw [c64_gw (by omega), hxe]
        have hx0 : ((x : Nat) : Int) ≠ 0 := by rw [hxe] at hx; omega
        have hbl : Lib.bitLen x ≤ 64 := Lib.bitLen_le x 64 (by omega) hxl
        obtain ⟨b, hbe⟩ : ∃ b, Lib.bitLen x = b := ⟨_, rfl⟩
        have HC : Hid (∀ w, Calls Try.prog 68 #[.int .u64 (x : Int)] w fun e w' => e = .returned (.int .i64 (b : Nat)) ∧ w' = w) := fun w => by
          have := Try.bits_Len64 (x : Int) w (by omega) (by omega)
          rw [show (x : Int).toNat = x by omega, hbe] at this
          exact this
        rw [hbe] at hR hbl
        clear hz hx hxe hxl hbe
        go_wp2_with ((first
          | (refine wpList_indexAt_arr Try.aw rfl (.tmp 1) (.tmp 8) rfl g1 j .i64 j rfl hj rfl rfl ?_)
          | (refine wpList_get Try.u64 rfl (.tmp 9) rfl g1 j (c64 l) (.int .u64 (x : Nat)) r1 hg rfl ?_)
          | (refine wpList_indexAt_arr Try.aw rfl (.tmp 1) (.tmp 14) rfl g1 j .i64 j rfl hj rfl rfl ?_)
          | (refine wpList_get Try.u64 rfl (.tmp 15) rfl g1 j (c64 l) (.int .u64 (x : Nat)) r1 hg rfl ?_)
          | (go_at_call 68; refine (HC.out _).mono ?_; rintro e w7 ⟨rfl, rfl⟩)); try simp only [Act.put, List.setIfInBounds_toArray, List.set_cons_succ, List.set_cons_zero])
        go_ret
        exact ⟨by rw [hR.out]; congr 2, hb⟩
end Go.Proofs.Ytpfoeeiacfadfaa
