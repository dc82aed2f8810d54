/-
  Contracts of package money and of the document's answer: Check, Sum.
-/
import Derived.Test.YtfdbnkmjnmcnlaaDoorRows
import Derived.Test.YtfdbnkmjnmcnlaaDoorBytes
import Derived.Test.YtfdbnkmjnmcnlaaDoorMild
import Derived.Test.YtfdbnkmjnmcnlaaDoorArr
import Derived.Test.YtfdbnkmjnmcnlaaDoorTxt
import Derived.Test.YtfdbnkmjnmcnlaaDoorU64
import Derived.WalkLawsBesides
import Derived.Deep.QuietTactic
import Derived.BigQuiet
import Derived.Deep.RegionLaw
namespace Go.Proofs.YtfdbnkmjnmcnlaaDoor
open Go.RowKit

theorem Tryd.wt : WT Tryd.prog 22 23 := ⟨by kernel_rfl, by kernel_rfl, by kernel_rfl⟩

/-- No amount is greater. -/
def MM : Nat := 2100000000000000
def chk (n : Nat) : Int := if n ≤ MM then 0 else 31
theorem chk_ok {n : Nat} (h : n ≤ MM) : chk n = 0 := if_pos h
theorem chk_no {n : Nat} (h : ¬ n ≤ MM) : chk n = 31 := if_neg h

set_option maxRecDepth 100000 in
theorem check_ok (n : Nat) (w : World) (h : n ≤ MM) : Calls Tryd.prog 12 #[.int .u64 (n : Int)] w fun e w' => e = .returned (.int .i64 0) ∧ w' = w := by
  have d : decide ((n : Int) > 2100000000000000) = false := by unfold MM at h; simp; omega
  clear h
  go_enter Tryd.func12, Tryd.ntmps12
  go_wp2
  go_ret
  exact ⟨rfl, rfl⟩
set_option maxRecDepth 100000 in
theorem check_no (n : Nat) (w : World) (h : ¬ n ≤ MM) : Calls Tryd.prog 12 #[.int .u64 (n : Int)] w fun e w' => e = .returned (.int .i64 31) ∧ w' = w := by
  have d : decide ((n : Int) > 2100000000000000) = true := by unfold MM at h; simp; omega
  clear h
  go_enter Tryd.func12, Tryd.ntmps12
  go_wp2
  go_ret
  exact ⟨rfl, rfl⟩
theorem check_any (n : Nat) (w : World) : Calls Tryd.prog 12 #[.int .u64 (n : Int)] w fun e w' => e = .returned (.int .i64 (chk n)) ∧ w' = w := by
  by_cases h : n ≤ MM
  · rw [chk_ok h]; exact check_ok n w h
  · rw [chk_no h]; exact check_no n w h
set_option maxRecDepth 100000 in
theorem rcheck_any (n : Nat) (w : World) : Calls Tryd.prog 13 #[.int .u64 (n : Int)] w fun e w' => e = .returned (.int .i64 (chk n)) ∧ w' = w := by
  by_cases h : n ≤ MM
  · rw [chk_ok h]
    have d : decide ((n : Int) > 2100000000000000) = false := by unfold MM at h; simp; omega
    clear h
    go_enter Tryd.func13, Tryd.ntmps13
    go_wp2
    go_ret
    exact ⟨rfl, rfl⟩
  · rw [chk_no h]
    have d : decide ((n : Int) > 2100000000000000) = true := by unfold MM at h; simp; omega
    clear h
    go_enter Tryd.func13, Tryd.ntmps13
    go_wp2
    go_ret
    exact ⟨rfl, rfl⟩

/-- The sum, and whether it is one. -/
def sumV (l : List Nat) : Nat := if l.sum ≤ MM then l.sum else 0
theorem sumV_ok {l : List Nat} (h : l.sum ≤ MM) : sumV l = l.sum := if_pos h
theorem sumV_no {l : List Nat} (h : ¬ l.sum ≤ MM) : sumV l = 0 := if_neg h

theorem sum_le_of_take (l : List Nat) (k : Nat) : (l.take k).sum ≤ l.sum := by
  conv => rhs; rw [← List.take_append_drop k l, List.sum_append]
  omega
theorem sum_take_succ (l : List Nat) (k : Nat) (h : k < l.length) : (l.take (k + 1)).sum = (l.take k).sum + l[k] := by
  rw [List.take_succ_eq_append_getElem h, List.sum_append]; simp

theorem add_u64 (n v : Nat) (h : n + v < 18446744073709551616) : IntKind.u64.wrap ((n : Int) + (v : Int)) = ((n + v : Nat) : Int) := by rw [IntKind.wrap_u64]; omega

set_option maxHeartbeats 1000000 in
set_option maxRecDepth 100000 in
theorem sum_any (w : World) (v : Value) (l : List Nat) (h : Rw w v l) (hl : l.length ≤ 1000000) :
    Calls Tryd.prog 10 #[v] w fun e w' => e = .returned (.tuple #[.int .u64 (sumV l : Int), .int .i64 (chk l.sum)]) ∧ w' = w := by
  have hrd : Hid (Rw w v l) := h
  obtain ⟨ao, cap, rfl⟩ := h.len
  clear h
  go_enter Tryd.func10, Tryd.ntmps10
  go_wp2_with fail
  go_loop [4, 9] (fun s i => ∃ k n : Nat, k ≤ l.length ∧ i = .int .i64 k ∧ s = .int .u64 n ∧ Hid (n = (l.take k).sum ∧ n ≤ MM)) (fun _ i => l.length - (intOf i).toNat)
  case atStart => exact ⟨0, 0, by omega, rfl, rfl, by simp, Nat.zero_le _⟩
  case round =>
    obtain ⟨k, n, hk, rfl, rfl, HN⟩ := hrel
    by_cases hlt : k < l.length
    · obtain ⟨b0, off, cap', ev, hcap, hc⟩ := hrd.out.at (by omega)
      simp only [Value.slice.injEq] at ev
      obtain ⟨rfl, _, rfl⟩ := ev
      have hck := hc k hlt
      have HS := sum_take_succ l k hlt
      rw [← HN.out.1] at HS
      generalize l[k] = v at hck HS
      have HS2 : Hid ((l.take (k + 1)).sum = n + v) := HS
      clear hc HS
      by_cases hv : v ≤ MM
      · have hw : IntKind.u64.wrap ((n : Int) + (v : Int)) = ((n + v : Nat) : Int) := add_u64 n v (by have := HN.out.2; unfold MM at this hv; omega)
        by_cases hnv : n + v ≤ MM
        · have hv' : Hid (v ≤ MM) := hv
          have hnv' : Hid (n + v ≤ MM) := hnv
          clear hv hnv
          go_wp2_with (go_at_call 12; refine (check_ok _ _ (by first | exact hv'.out | exact hnv'.out)).mono ?_; rintro e w' ⟨rfl, rfl⟩)
          go_round
          case rel => exact ⟨k + 1, n + v, by omega, by go_num, rfl, HS2.out.symm, hnv'.out⟩
          case measure => simp [intOf]; omega
        · have hv' : Hid (v ≤ MM) := hv
          have hnv' : Hid (¬ n + v ≤ MM) := hnv
          have HE : Hid (¬ l.sum ≤ MM) := by have := sum_le_of_take l (k + 1); rw [HS2.out] at this; show ¬ _; omega
          clear hv hnv
          go_wp2_with (first | (go_at_call 12; refine (check_ok _ _ (by exact hv'.out)).mono ?_; rintro e w' ⟨rfl, rfl⟩) | (go_at_call 12; refine (check_no _ _ (by exact hnv'.out)).mono ?_; rintro e w' ⟨rfl, rfl⟩))
          go_ret2
          rw [sumV_no HE.out, chk_no HE.out]
          exact ⟨rfl, rfl⟩
      · have hv' : Hid (¬ v ≤ MM) := hv
        have HE : Hid (¬ l.sum ≤ MM) := by have := sum_le_of_take l (k + 1); rw [HS2.out] at this; show ¬ _; omega
        clear hv
        go_wp2_with (go_at_call 12; refine (check_no _ _ (by exact hv'.out)).mono ?_; rintro e w' ⟨rfl, rfl⟩)
        go_ret2
        rw [sumV_no HE.out, chk_no HE.out]
        exact ⟨rfl, rfl⟩
    · have HE : Hid (n = l.sum ∧ n ≤ MM) := by
        have := HN.out
        rw [List.take_of_length_le (by omega)] at this
        exact this
      go_wp2
      go_ret2
      rw [sumV_ok (by rw [← HE.out.1]; exact HE.out.2), chk_ok (by rw [← HE.out.1]; exact HE.out.2), ← HE.out.1]
      exact ⟨rfl, rfl⟩

set_option maxHeartbeats 1000000 in
set_option maxRecDepth 100000 in
theorem rsum_any (w : World) (v : Value) (l : List Nat) (h : Rw w v l) (hl : l.length ≤ 1000000) :
    Calls Tryd.prog 11 #[v] w fun e w' => e = .returned (.tuple #[.int .u64 (sumV l : Int), .int .i64 (chk l.sum)]) ∧ w' = w := by
  have hrd : Hid (Rw w v l) := h
  obtain ⟨ao, cap, rfl⟩ := h.len
  clear h
  go_enter Tryd.func11, Tryd.ntmps11
  go_wp2_with fail
  go_loop [4, 5] (fun s i => ∃ k n : Nat, k ≤ l.length ∧ i = .int .i64 k ∧ s = .int .u64 n ∧ Hid (n = (l.take k).sum ∧ n ≤ MM)) (fun _ i => l.length - (intOf i).toNat)
  case atStart => exact ⟨0, 0, by omega, rfl, rfl, by simp, Nat.zero_le _⟩
  case round =>
    obtain ⟨k, n, hk, rfl, rfl, HN⟩ := hrel
    by_cases hlt : k < l.length
    · obtain ⟨b0, off, cap', ev, hcap, hc⟩ := hrd.out.at (by omega)
      simp only [Value.slice.injEq] at ev
      obtain ⟨rfl, _, rfl⟩ := ev
      have hck := hc k hlt
      have HS := sum_take_succ l k hlt
      rw [← HN.out.1] at HS
      generalize l[k] = v at hck HS
      have HS2 : Hid ((l.take (k + 1)).sum = n + v) := HS
      clear hc HS
      by_cases hv : v ≤ MM
      · have hw : IntKind.u64.wrap ((n : Int) + (v : Int)) = ((n + v : Nat) : Int) := add_u64 n v (by have := HN.out.2; unfold MM at this hv; omega)
        have hw2 : IntKind.u64.wrap (2100000000000000 - (v : Int)) = ((MM - v : Nat) : Int) := by rw [IntKind.wrap_u64]; unfold MM at hv ⊢; omega
        have d1 : decide ((v : Int) > 2100000000000000) = false := by unfold MM at hv; simp; omega
        by_cases hnv : n + v ≤ MM
        · have hnv' : Hid (n + v ≤ MM) := hnv
          have d2 : ¬ MM - v < n := by omega
          clear hv hnv
          go_wp2
          go_round
          case rel => exact ⟨k + 1, n + v, by omega, by go_num, rfl, HS2.out.symm, hnv'.out⟩
          case measure => simp [intOf]; omega
        · have HE : Hid (¬ l.sum ≤ MM) := by have := sum_le_of_take l (k + 1); rw [HS2.out] at this; show ¬ _; omega
          have d2 : MM - v < n := by omega
          clear hv hnv
          go_wp2
          go_ret2
          rw [sumV_no HE.out, chk_no HE.out]
          exact ⟨rfl, rfl⟩
      · have HE : Hid (¬ l.sum ≤ MM) := by have := sum_le_of_take l (k + 1); rw [HS2.out] at this; show ¬ _; omega
        have d1 : decide ((v : Int) > 2100000000000000) = true := by unfold MM at hv; simp; omega
        clear hv
        go_wp2
        go_ret2
        rw [sumV_no HE.out, chk_no HE.out]
        exact ⟨rfl, rfl⟩
    · have HE : Hid (n = l.sum ∧ n ≤ MM) := by
        have := HN.out
        rw [List.take_of_length_le (by omega)] at this
        exact this
      go_wp2
      go_ret2
      rw [sumV_ok (by rw [← HE.out.1]; exact HE.out.2), chk_ok (by rw [← HE.out.1]; exact HE.out.2), ← HE.out.1]
      exact ⟨rfl, rfl⟩
end Go.Proofs.YtfdbnkmjnmcnlaaDoor
