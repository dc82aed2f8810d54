/-
  Contracts of Fee: package money's, and the document's.
-/
import Derived.Test.YtfdbnkmjnmcnlaaDoorM2
namespace Go.Proofs.YtfdbnkmjnmcnlaaDoor
open Go.RowKit

/-- What a weight of n costs. -/
def cost (n rate : Nat) : Nat := (n + 3) / 4 * rate
def feeV (n rate : Nat) : Nat := if rate ≤ MM ∧ cost n rate ≤ MM then cost n rate else 0
def feeE (n rate : Nat) : Int := if rate ≤ MM ∧ cost n rate ≤ MM then 0 else 31
theorem fee_ok {n rate : Nat} (h : rate ≤ MM) (h2 : cost n rate ≤ MM) : feeV n rate = cost n rate ∧ feeE n rate = 0 := ⟨if_pos ⟨h, h2⟩, if_pos ⟨h, h2⟩⟩
theorem fee_no {n rate : Nat} (h : ¬ (rate ≤ MM ∧ cost n rate ≤ MM)) : feeV n rate = 0 ∧ feeE n rate = 31 := ⟨if_neg h, if_neg h⟩

set_option maxHeartbeats 1000000 in
set_option maxRecDepth 100000 in
theorem fee_neg (w : World) (z : Int) (r : Nat) (hz : z < 0) :
    Calls Tryd.prog 18 #[.int .i64 z, .int .u64 (r : Int)] w fun e w' => e = .returned (.tuple #[.int .u64 0, .int .i64 1]) ∧ w' = w := by
  go_enter Tryd.func18, Tryd.ntmps18
  go_wp2_with fail
  go_ret2
  exact ⟨rfl, rfl⟩
set_option maxHeartbeats 1000000 in
set_option maxRecDepth 100000 in
theorem rfee_neg (w : World) (z : Int) (r : Nat) (hz : z < 0) :
    Calls Tryd.prog 19 #[.int .i64 z, .int .u64 (r : Int)] w fun e w' => e = .returned (.tuple #[.int .u64 0, .int .i64 1]) ∧ w' = w := by
  go_enter Tryd.func19, Tryd.ntmps19
  go_wp2_with fail
  go_ret2
  exact ⟨rfl, rfl⟩

theorem steps_eq (n : Nat) (hn : n ≤ 9223372036854775807) : IntKind.u64.wrap ((IntKind.u64.wrap (IntKind.u64.wrap ((n : Int) + 4) - 1)).tdiv 4) = (((n + 3) / 4 : Nat) : Int) := by
  have e1 : IntKind.u64.wrap ((n : Int) + 4) = (n : Int) + 4 := by rw [IntKind.wrap_u64]; omega
  have e2 : IntKind.u64.wrap ((n : Int) + 4 - 1) = ((n + 3 : Nat) : Int) := by rw [IntKind.wrap_u64]; omega
  have e3 : (((n + 3 : Nat) : Int)).tdiv 4 = (((n + 3) / 4 : Nat) : Int) := by rw [Int.tdiv_eq_ediv_of_nonneg (by omega)]; omega
  rw [e1, e2, e3, IntKind.wrap_u64]; omega

set_option maxHeartbeats 1000000 in
set_option maxRecDepth 100000 in
theorem fee_pos (w : World) (n r : Nat) (hn : n ≤ 9223372036854775807) (hr : r < 18446744073709551616) :
    Calls Tryd.prog 18 #[.int .i64 (n : Int), .int .u64 (r : Int)] w fun e w' => e = .returned (.tuple #[.int .u64 (feeV n r : Nat), .int .i64 (feeE n r)]) ∧ w' = w := by
  have h0 : decide ((n : Int) < 0) = false := by simp
  have ew : IntKind.u64.wrap (n : Int) = (n : Int) := by rw [IntKind.wrap_u64]; omega
  have Hn : Hid (n ≤ 9223372036854775807) := hn
  have Hr : Hid (r < 18446744073709551616) := hr
  clear hn hr
  by_cases hm : r ≤ MM
  · have Hm : Hid (r ≤ MM) := hm
    clear hm
    go_enter Tryd.func18, Tryd.ntmps18
    go_wp2_with (go_at_call 12; refine (check_ok _ _ (by exact Hm.out)).mono ?_; rintro e w' ⟨rfl, rfl⟩)
    rw [steps_eq n Hn.out]
    refine (Tryd.bits_Mul64 ((n + 3) / 4) r (by have := Hn.out; omega) Hr.out w').mono ?_
    have HX : Hid (cost n r = (n + 3) / 4 * r) := rfl
    generalize (n + 3) / 4 * r = x at *
    by_cases hx : x ≤ MM
    · have HE : Hid (feeV n r = x ∧ feeE n r = 0) := by have := fee_ok (n := n) Hm.out (by rw [HX.out]; exact hx); rw [HX.out] at this; exact this
      have Hx : Hid (x ≤ MM) := hx
      rw [show x / 18446744073709551616 = 0 by unfold MM at hx; omega, show x % 18446744073709551616 = x by unfold MM at hx; omega]
      clear hx
      rintro e w1 ⟨rfl, rfl⟩
      go_wp2_with (go_at_call 12; refine (check_ok _ _ (by exact Hx.out)).mono ?_; rintro e w' ⟨rfl, rfl⟩)
      go_ret2
      rw [HE.out.1, HE.out.2]
      exact ⟨rfl, rfl⟩
    · have HE : Hid (feeV n r = 0 ∧ feeE n r = 31) := fee_no (fun h => by rw [HX.out] at h; exact hx h.2)
      by_cases hh : x / 18446744073709551616 = 0
      · have Hx : Hid (¬ x ≤ MM) := hx
        rw [hh, show x % 18446744073709551616 = x by omega]
        clear hx hh
        rintro e w1 ⟨rfl, rfl⟩
        go_wp2_with (go_at_call 12; refine (check_no _ _ (by exact Hx.out)).mono ?_; rintro e w' ⟨rfl, rfl⟩)
        go_ret2
        rw [HE.out.1, HE.out.2]
        exact ⟨rfl, rfl⟩
      · generalize x / 18446744073709551616 = hi at *
        generalize x % 18446744073709551616 = lo at *
        have d : ((hi : Int) != 0) = true := by simp; omega
        clear hx
        rintro e w1 ⟨rfl, rfl⟩
        go_wp2_with fail
        go_ret2
        rw [HE.out.1, HE.out.2]
        exact ⟨rfl, rfl⟩
  · have HE : Hid (feeV n r = 0 ∧ feeE n r = 31) := fee_no (fun h => hm h.1)
    have Hm : Hid (¬ r ≤ MM) := hm
    clear hm
    go_enter Tryd.func18, Tryd.ntmps18
    go_wp2_with (go_at_call 12; refine (check_no _ _ (by exact Hm.out)).mono ?_; rintro e w' ⟨rfl, rfl⟩)
    go_ret2
    rw [HE.out.1, HE.out.2]
    exact ⟨rfl, rfl⟩

theorem div_cost {p r : Nat} (hr : 0 < r) : (MM / r < p) ↔ (MM < p * r) := Nat.div_lt_iff_lt_mul hr
theorem mm_div (r : Nat) : (2100000000000000 : Int) / (r : Int) = ((MM / r : Nat) : Int) := by rw [Int.natCast_ediv]; rfl
theorem more_no {k r : Nat} (hr : 0 < r) (h : k * r ≤ MM) : decide ((k : Int) > 2100000000000000 / (r : Int)) = false := by
  have := div_cost (p := k) hr
  rw [mm_div]; simp only [decide_eq_false_iff_not]; omega
theorem more_yes {k r : Nat} (hr : 0 < r) (h : ¬ k * r ≤ MM) : decide ((k : Int) > 2100000000000000 / (r : Int)) = true := by
  have := div_cost (p := k) hr
  rw [mm_div]; simp only [decide_eq_true_eq]; omega

set_option maxHeartbeats 1000000 in
set_option maxRecDepth 100000 in
theorem rfee_pos (w : World) (n r : Nat) (hn : n ≤ 9223372036854775807) (hr : r < 18446744073709551616) :
    Calls Tryd.prog 19 #[.int .i64 (n : Int), .int .u64 (r : Int)] w fun e w' => e = .returned (.tuple #[.int .u64 (feeV n r : Nat), .int .i64 (feeE n r)]) ∧ w' = w := by
  have h0 : decide ((n : Int) < 0) = false := by simp
  have ew : IntKind.u64.wrap (n : Int) = (n : Int) := by rw [IntKind.wrap_u64]; omega
  have Hn : Hid (n ≤ 9223372036854775807) := hn
  have Hr : Hid (r < 18446744073709551616) := hr
  clear hn hr
  have HX : Hid (cost n r = (n + 3) / 4 * r) := rfl
  by_cases hm4 : 0 < n % 4
  · have d4 : decide ((n : Int) % 4 > 0) = true := by simp; omega
    obtain ⟨q, hq⟩ : ∃ q : Nat, n / 4 = q := ⟨_, rfl⟩
    have e0 : IntKind.u64.wrap ((n : Int) / 4) = (q : Int) := by have := Hn.out; rw [IntKind.wrap_u64]; omega
    have e2 : IntKind.u64.wrap ((q : Int) + 1) = (((n + 3) / 4 : Nat) : Int) := by have := Hn.out; rw [IntKind.wrap_u64]; omega
    clear hq hm4
    generalize (n + 3) / 4 = k at *
    by_cases hm : r ≤ MM
    · have d1 : decide ((r : Int) > 2100000000000000) = false := by unfold MM at hm; simp; omega
      by_cases hr : 0 < r
      · have d2 : decide ((r : Int) > 0) = true := by simp; omega
        by_cases hx : k * r ≤ MM
        · have d3 : decide ((k : Int) > 2100000000000000 / (r : Int)) = false := more_no hr hx
          have HE : Hid (feeV n r = k * r ∧ feeE n r = 0) := by have := fee_ok (n := n) hm (by rw [HX.out]; exact hx); rw [HX.out] at this; exact this
          have e3 : IntKind.u64.wrap ((k : Int) * (r : Int)) = ((k * r : Nat) : Int) := by rw [← Int.natCast_mul, IntKind.wrap_u64]; unfold MM at hx; omega
          generalize k * r = x at *
          clear hm hx
          go_enter Tryd.func19, Tryd.ntmps19
          go_wp2_with fail
          go_ret2
          rw [HE.out.1, HE.out.2]
          exact ⟨rfl, rfl⟩
        · have d3 : decide ((k : Int) > 2100000000000000 / (r : Int)) = true := more_yes hr hx
          have HE : Hid (feeV n r = 0 ∧ feeE n r = 31) := fee_no (fun h => by rw [HX.out] at h; exact hx h.2)
          clear hm hx
          go_enter Tryd.func19, Tryd.ntmps19
          go_wp2_with fail
          go_ret2
          rw [HE.out.1, HE.out.2]
          exact ⟨rfl, rfl⟩
      · obtain rfl : r = 0 := by omega
        have HE : Hid (feeV n 0 = 0 ∧ feeE n 0 = 0) := by have := fee_ok (n := n) hm (by rw [HX.out]; omega); rw [HX.out] at this; exact this
        clear hm
        go_enter Tryd.func19, Tryd.ntmps19
        go_wp2_with fail
        go_ret2
        rw [HE.out.1, HE.out.2]
        exact ⟨rfl, rfl⟩
    · have d1 : decide ((r : Int) > 2100000000000000) = true := by unfold MM at hm; simp; omega
      have HE : Hid (feeV n r = 0 ∧ feeE n r = 31) := fee_no (fun h => hm h.1)
      clear hm
      go_enter Tryd.func19, Tryd.ntmps19
      go_wp2_with fail
      go_ret2
      rw [HE.out.1, HE.out.2]
      exact ⟨rfl, rfl⟩
  · have d4 : decide ((n : Int) % 4 > 0) = false := by simp; omega
    have e0 : IntKind.u64.wrap ((n : Int) / 4) = (((n + 3) / 4 : Nat) : Int) := by have := Hn.out; rw [IntKind.wrap_u64]; omega
    clear hm4
    generalize (n + 3) / 4 = k at *
    by_cases hm : r ≤ MM
    · have d1 : decide ((r : Int) > 2100000000000000) = false := by unfold MM at hm; simp; omega
      by_cases hr : 0 < r
      · have d2 : decide ((r : Int) > 0) = true := by simp; omega
        by_cases hx : k * r ≤ MM
        · have d3 : decide ((k : Int) > 2100000000000000 / (r : Int)) = false := more_no hr hx
          have HE : Hid (feeV n r = k * r ∧ feeE n r = 0) := by have := fee_ok (n := n) hm (by rw [HX.out]; exact hx); rw [HX.out] at this; exact this
          have e3 : IntKind.u64.wrap ((k : Int) * (r : Int)) = ((k * r : Nat) : Int) := by rw [← Int.natCast_mul, IntKind.wrap_u64]; unfold MM at hx; omega
          generalize k * r = x at *
          clear hm hx
          go_enter Tryd.func19, Tryd.ntmps19
          go_wp2_with fail
          go_ret2
          rw [HE.out.1, HE.out.2]
          exact ⟨rfl, rfl⟩
        · have d3 : decide ((k : Int) > 2100000000000000 / (r : Int)) = true := more_yes hr hx
          have HE : Hid (feeV n r = 0 ∧ feeE n r = 31) := fee_no (fun h => by rw [HX.out] at h; exact hx h.2)
          clear hm hx
          go_enter Tryd.func19, Tryd.ntmps19
          go_wp2_with fail
          go_ret2
          rw [HE.out.1, HE.out.2]
          exact ⟨rfl, rfl⟩
      · obtain rfl : r = 0 := by omega
        have HE : Hid (feeV n 0 = 0 ∧ feeE n 0 = 0) := by have := fee_ok (n := n) hm (by rw [HX.out]; omega); rw [HX.out] at this; exact this
        clear hm
        go_enter Tryd.func19, Tryd.ntmps19
        go_wp2_with fail
        go_ret2
        rw [HE.out.1, HE.out.2]
        exact ⟨rfl, rfl⟩
    · have d1 : decide ((r : Int) > 2100000000000000) = true := by unfold MM at hm; simp; omega
      have HE : Hid (feeV n r = 0 ∧ feeE n r = 31) := fee_no (fun h => hm h.1)
      clear hm
      go_enter Tryd.func19, Tryd.ntmps19
      go_wp2_with fail
      go_ret2
      rw [HE.out.1, HE.out.2]
      exact ⟨rfl, rfl⟩
end Go.Proofs.YtfdbnkmjnmcnlaaDoor
