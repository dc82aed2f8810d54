/-
  Contracts of what package compact reads: numbers, sizes, strings.
-/
import Derived.Test.YtjobmpfnnfmonaaW2
import Derived.BigQuiet
namespace Go.Proofs.Ytjobmpfnnfmonaa
open Go.RowKit

set_option maxHeartbeats 400000 in
theorem readNum64_ok (w : World) (B : Nat) (v : Value) (l : List UInt8) (h : Rd B w v l) (hl : l.length ≤ 1000000) (hw : 8 ≤ l.length) :
    Calls Try.prog 41 #[v] w fun e w' => ∃ v', e = .returned (.tuple #[.int .u64 (num (l.take 8)), v', .int .i64 0]) ∧ Rd B w' v' (l.drop 8) ∧ Below w.heap.size w w' := by
  have hrd := h
  obtain ⟨b, off, cap, rfl, hcap, hbB, hc⟩ := h.at (by omega)
  clear h
  go_enter Try.func41, Try.ntmps41
  go_wp2_with (go_at_call 47; refine (width64 _).mono ?_; rintro e w' ⟨rfl, rfl⟩)
  go_loop [6, 7, 14] (fun n _ i => ∃ k : Nat, k ≤ 8 ∧ i = .int .i64 k ∧ n = .int .u64 (num (l.take k))) (fun _ _ i => 8 - (intOf i).toNat)
  case atStart => exact ⟨0, by omega, rfl, rfl⟩
  case round =>
    obtain ⟨k, hk, rfl, rfl⟩ := hrel
    by_cases hlt : k < 8
    · have hck := hc k (by omega)
      go_wp2
      go_round
      case rel => exact ⟨k + 1, by omega, by go_num, by rw [or64 l k (by omega) hlt]⟩
      case measure => simp [intOf]; omega
    · obtain rfl : k = 8 := by omega
      go_wp2_with fail
      go_quiet (fail)
      go_wp2
      all_goals
        go_ret3
        exact ⟨_, rfl, (hrd.drop (by omega) _ _ _ _ (by first | exact .inr ⟨rfl, rfl⟩ | (left; omega)) rfl (by omega)).drewN _, Below.drewN' _ _ _⟩

set_option maxHeartbeats 400000 in
theorem readNum64_short (w : World) (B : Nat) (v : Value) (l : List UInt8) (h : Rd B w v l) (hw : l.length < 8) :
    Calls Try.prog 41 #[v] w fun e w' => e = .returned (.tuple #[.int .u64 0, .slice none 0 0, .int .i64 2]) ∧ w = w' := by
  obtain ⟨ao, cap, rfl⟩ := h.len
  clear h
  go_enter Try.func41, Try.ntmps41
  go_wp2_with (go_at_call 47; refine (width64 _).mono ?_; rintro e w' ⟨rfl, rfl⟩)
  go_ret3
  exact ⟨rfl, rfl⟩

theorem readNum64 (w : World) (B : Nat) (v : Value) (l : List UInt8) (h : Rd B w v l) (hl : l.length ≤ 1000000) :
    Calls Try.prog 41 #[v] w fun e w' => ∃ v', e = .returned (.tuple #[.int .u64 ((takeNum 8 l).1 : Nat), v', .int .i64 ((takeNum 8 l).2.2 : Nat)]) ∧ Rd B w' v' (takeNum 8 l).2.1 ∧ Below w.heap.size w w' := by
  unfold takeNum
  by_cases hw : l.length < 8
  · simp only [hw, if_true]
    exact (readNum64_short w B v l h hw).mono fun e w' ⟨he, hw'⟩ => ⟨_, he, Rd.nil _ _, by rw [← hw']; exact Below.refl _ _⟩
  · simp only [hw, if_false]
    exact (readNum64_ok w B v l h hl (by omega)).mono fun e w' ⟨v', he, h1, h2⟩ => ⟨v', he, h1, h2⟩

theorem tn64 (l : List UInt8) : (takeNum 8 l).1 < 2 ^ 64 := by
  unfold takeNum
  split
  · simp
  · exact num_take_lt l 8

set_option maxHeartbeats 400000 in
theorem readNum32_ok (w : World) (B : Nat) (v : Value) (l : List UInt8) (h : Rd B w v l) (hl : l.length ≤ 1000000) (hw : 4 ≤ l.length) :
    Calls Try.prog 40 #[v] w fun e w' => ∃ v', e = .returned (.tuple #[.int .u32 (num (l.take 4)), v', .int .i64 0]) ∧ Rd B w' v' (l.drop 4) ∧ Below w.heap.size w w' := by
  have hrd := h
  obtain ⟨b, off, cap, rfl, hcap, hbB, hc⟩ := h.at (by omega)
  clear h
  go_enter Try.func40, Try.ntmps40
  go_wp2_with (go_at_call 46; refine (width32 _).mono ?_; rintro e w' ⟨rfl, rfl⟩)
  go_loop [6, 7, 14] (fun n _ i => ∃ k : Nat, k ≤ 4 ∧ i = .int .i64 k ∧ n = .int .u32 (num (l.take k))) (fun _ _ i => 4 - (intOf i).toNat)
  case atStart => exact ⟨0, by omega, rfl, rfl⟩
  case round =>
    obtain ⟨k, hk, rfl, rfl⟩ := hrel
    by_cases hlt : k < 4
    · have hck := hc k (by omega)
      go_wp2
      go_round
      case rel => exact ⟨k + 1, by omega, by go_num, by have := or32 l k (by omega) hlt; simp only [IntKind.wrap_u32'] at this; rw [this]⟩
      case measure => simp [intOf]; omega
    · obtain rfl : k = 4 := by omega
      go_wp2_with fail
      go_quiet (fail)
      go_wp2
      all_goals
        go_ret3
        exact ⟨_, rfl, (hrd.drop (by omega) _ _ _ _ (by first | exact .inr ⟨rfl, rfl⟩ | (left; omega)) rfl (by omega)).drewN _, Below.drewN' _ _ _⟩

set_option maxHeartbeats 400000 in
theorem readNum32_short (w : World) (B : Nat) (v : Value) (l : List UInt8) (h : Rd B w v l) (hw : l.length < 4) :
    Calls Try.prog 40 #[v] w fun e w' => e = .returned (.tuple #[.int .u32 0, .slice none 0 0, .int .i64 2]) ∧ w = w' := by
  obtain ⟨ao, cap, rfl⟩ := h.len
  clear h
  go_enter Try.func40, Try.ntmps40
  go_wp2_with (go_at_call 46; refine (width32 _).mono ?_; rintro e w' ⟨rfl, rfl⟩)
  go_ret3
  exact ⟨rfl, rfl⟩

theorem readNum32 (w : World) (B : Nat) (v : Value) (l : List UInt8) (h : Rd B w v l) (hl : l.length ≤ 1000000) :
    Calls Try.prog 40 #[v] w fun e w' => ∃ v', e = .returned (.tuple #[.int .u32 ((takeNum 4 l).1 : Nat), v', .int .i64 ((takeNum 4 l).2.2 : Nat)]) ∧ Rd B w' v' (takeNum 4 l).2.1 ∧ Below w.heap.size w w' := by
  unfold takeNum
  by_cases hw : l.length < 4
  · simp only [hw, if_true]
    exact (readNum32_short w B v l h hw).mono fun e w' ⟨he, hw'⟩ => ⟨_, he, Rd.nil _ _, by rw [← hw']; exact Below.refl _ _⟩
  · simp only [hw, if_false]
    exact (readNum32_ok w B v l h hl (by omega)).mono fun e w' ⟨v', he, h1, h2⟩ => ⟨v', he, h1, h2⟩

theorem tn32 (l : List UInt8) : (takeNum 4 l).1 < 2 ^ 32 := by
  unfold takeNum
  split
  · simp
  · exact num_take_lt l 4

set_option maxHeartbeats 400000 in
theorem readNum16_ok (w : World) (B : Nat) (v : Value) (l : List UInt8) (h : Rd B w v l) (hl : l.length ≤ 1000000) (hw : 2 ≤ l.length) :
    Calls Try.prog 54 #[v] w fun e w' => ∃ v', e = .returned (.tuple #[.int .u16 (num (l.take 2)), v', .int .i64 0]) ∧ Rd B w' v' (l.drop 2) ∧ Below w.heap.size w w' := by
  have hrd := h
  obtain ⟨b, off, cap, rfl, hcap, hbB, hc⟩ := h.at (by omega)
  clear h
  go_enter Try.func54, Try.ntmps54
  go_wp2_with (go_at_call 53; refine (width16 _).mono ?_; rintro e w' ⟨rfl, rfl⟩)
  go_loop [6, 7, 14] (fun n _ i => ∃ k : Nat, k ≤ 2 ∧ i = .int .i64 k ∧ n = .int .u16 (num (l.take k))) (fun _ _ i => 2 - (intOf i).toNat)
  case atStart => exact ⟨0, by omega, rfl, rfl⟩
  case round =>
    obtain ⟨k, hk, rfl, rfl⟩ := hrel
    by_cases hlt : k < 2
    · have hck := hc k (by omega)
      go_wp2
      go_round
      case rel => exact ⟨k + 1, by omega, by go_num, by rw [or16 l k (by omega) hlt]⟩
      case measure => simp [intOf]; omega
    · obtain rfl : k = 2 := by omega
      go_wp2_with fail
      go_quiet (fail)
      go_wp2
      all_goals
        go_ret3
        exact ⟨_, rfl, (hrd.drop (by omega) _ _ _ _ (by first | exact .inr ⟨rfl, rfl⟩ | (left; omega)) rfl (by omega)).drewN _, Below.drewN' _ _ _⟩

set_option maxHeartbeats 400000 in
theorem readNum16_short (w : World) (B : Nat) (v : Value) (l : List UInt8) (h : Rd B w v l) (hw : l.length < 2) :
    Calls Try.prog 54 #[v] w fun e w' => e = .returned (.tuple #[.int .u16 0, .slice none 0 0, .int .i64 2]) ∧ w = w' := by
  obtain ⟨ao, cap, rfl⟩ := h.len
  clear h
  go_enter Try.func54, Try.ntmps54
  go_wp2_with (go_at_call 53; refine (width16 _).mono ?_; rintro e w' ⟨rfl, rfl⟩)
  go_ret3
  exact ⟨rfl, rfl⟩

theorem readNum16 (w : World) (B : Nat) (v : Value) (l : List UInt8) (h : Rd B w v l) (hl : l.length ≤ 1000000) :
    Calls Try.prog 54 #[v] w fun e w' => ∃ v', e = .returned (.tuple #[.int .u16 ((takeNum 2 l).1 : Nat), v', .int .i64 ((takeNum 2 l).2.2 : Nat)]) ∧ Rd B w' v' (takeNum 2 l).2.1 ∧ Below w.heap.size w w' := by
  unfold takeNum
  by_cases hw : l.length < 2
  · simp only [hw, if_true]
    exact (readNum16_short w B v l h hw).mono fun e w' ⟨he, hw'⟩ => ⟨_, he, Rd.nil _ _, by rw [← hw']; exact Below.refl _ _⟩
  · simp only [hw, if_false]
    exact (readNum16_ok w B v l h hl (by omega)).mono fun e w' ⟨v', he, h1, h2⟩ => ⟨v', he, h1, h2⟩

theorem tn16 (l : List UInt8) : (takeNum 2 l).1 < 2 ^ 16 := by
  unfold takeNum
  split
  · simp
  · exact num_take_lt l 2

theorem readNum64_n (w : World) (B : Nat) (v : Value) (l : List UInt8) (n : Nat) (hn : n = num (l.take 8)) (h : Rd B w v l) (hl : l.length ≤ 1000000) (hw : 8 ≤ l.length) :
    Calls Try.prog 41 #[v] w fun e w' => ∃ v', e = .returned (.tuple #[.int .u64 n, v', .int .i64 0]) ∧ Rd B w' v' (l.drop 8) ∧ Below w.heap.size w w' := by
  subst hn
  exact readNum64_ok w B v l h hl hw

set_option maxRecDepth 100000 in
set_option maxHeartbeats 400000 in
theorem readMarked64 (w : World) (B : Nat) (v : Value) (l : List UInt8) (L : Nat) (h : Rd B w v l) (hl : l.length ≤ 1000000) :
    Calls Try.prog 51 #[v, .int .u64 L] w fun e w' => ∃ v', e = .returned (.tuple #[.int .u64 ((takeMarked 8 L l).1 : Nat), v', .int .i64 ((takeMarked 8 L l).2.2 : Nat)]) ∧ Rd B w' v' (takeMarked 8 L l).2.1 ∧ Below w.heap.size w w' := by
  unfold takeMarked
  by_cases hw : l.length < 8
  · simp only [hw, if_true]
    go_enter Try.func51, Try.ntmps51
    go_wp2_with (go_at_call 41; refine (readNum64_short _ _ _ _ h hw).mono ?_; rintro e w' ⟨rfl, rfl⟩)
    go_ret3
    exact ⟨_, rfl, Rd.nil _ _, Below.refl _ _⟩
  · simp only [hw, if_false]
    have hlt := num_take_lt l 8
    have hw' : 8 ≤ l.length := by omega
    simp only [Nat.reduceMul, Nat.reducePow] at hlt
    obtain ⟨n, hn⟩ : ∃ n, n = num (l.take 8) := ⟨_, rfl⟩
    rw [← hn] at hlt ⊢
    have H : Hid (n = num (l.take 8)) := hn
    clear hn hw
    have hz : IntKind.u64.wrap (n : Int) = n := by rw [IntKind.wrap_u64]; omega
    clear hlt
    by_cases hn : n < L
    · simp only [hn, if_true]
      go_enter Try.func51, Try.ntmps51
      go_wp2_with (go_at_call 41; refine (readNum64_n _ _ _ _ n H.out h hl hw').mono ?_; rintro e w1 ⟨v1, rfl, hr1, hb1⟩)
      go_ret3
      exact ⟨_, rfl, Rd.nil _ _, hb1⟩
    · simp only [hn, if_false]
      go_enter Try.func51, Try.ntmps51
      go_wp2_with (go_at_call 41; refine (readNum64_n _ _ _ _ n H.out h hl hw').mono ?_; rintro e w1 ⟨v1, rfl, hr1, hb1⟩)
      go_ret3
      exact ⟨_, rfl, hr1, hb1⟩

theorem readNum32_n (w : World) (B : Nat) (v : Value) (l : List UInt8) (n : Nat) (hn : n = num (l.take 4)) (h : Rd B w v l) (hl : l.length ≤ 1000000) (hw : 4 ≤ l.length) :
    Calls Try.prog 40 #[v] w fun e w' => ∃ v', e = .returned (.tuple #[.int .u32 n, v', .int .i64 0]) ∧ Rd B w' v' (l.drop 4) ∧ Below w.heap.size w w' := by
  subst hn
  exact readNum32_ok w B v l h hl hw

set_option maxRecDepth 100000 in
set_option maxHeartbeats 400000 in
theorem readMarked32 (w : World) (B : Nat) (v : Value) (l : List UInt8) (L : Nat) (h : Rd B w v l) (hl : l.length ≤ 1000000) :
    Calls Try.prog 50 #[v, .int .u64 L] w fun e w' => ∃ v', e = .returned (.tuple #[.int .u64 ((takeMarked 4 L l).1 : Nat), v', .int .i64 ((takeMarked 4 L l).2.2 : Nat)]) ∧ Rd B w' v' (takeMarked 4 L l).2.1 ∧ Below w.heap.size w w' := by
  unfold takeMarked
  by_cases hw : l.length < 4
  · simp only [hw, if_true]
    go_enter Try.func50, Try.ntmps50
    go_wp2_with (go_at_call 40; refine (readNum32_short _ _ _ _ h hw).mono ?_; rintro e w' ⟨rfl, rfl⟩)
    go_ret3
    exact ⟨_, rfl, Rd.nil _ _, Below.refl _ _⟩
  · simp only [hw, if_false]
    have hlt := num_take_lt l 4
    have hw' : 4 ≤ l.length := by omega
    simp only [Nat.reduceMul, Nat.reducePow] at hlt
    obtain ⟨n, hn⟩ : ∃ n, n = num (l.take 4) := ⟨_, rfl⟩
    rw [← hn] at hlt ⊢
    have H : Hid (n = num (l.take 4)) := hn
    clear hn hw
    have hz : IntKind.u64.wrap (n : Int) = n := by rw [IntKind.wrap_u64]; omega
    clear hlt
    by_cases hn : n < L
    · simp only [hn, if_true]
      go_enter Try.func50, Try.ntmps50
      go_wp2_with (go_at_call 40; refine (readNum32_n _ _ _ _ n H.out h hl hw').mono ?_; rintro e w1 ⟨v1, rfl, hr1, hb1⟩)
      go_ret3
      exact ⟨_, rfl, Rd.nil _ _, hb1⟩
    · simp only [hn, if_false]
      go_enter Try.func50, Try.ntmps50
      go_wp2_with (go_at_call 40; refine (readNum32_n _ _ _ _ n H.out h hl hw').mono ?_; rintro e w1 ⟨v1, rfl, hr1, hb1⟩)
      go_ret3
      exact ⟨_, rfl, hr1, hb1⟩

theorem readNum16_n (w : World) (B : Nat) (v : Value) (l : List UInt8) (n : Nat) (hn : n = num (l.take 2)) (h : Rd B w v l) (hl : l.length ≤ 1000000) (hw : 2 ≤ l.length) :
    Calls Try.prog 54 #[v] w fun e w' => ∃ v', e = .returned (.tuple #[.int .u16 n, v', .int .i64 0]) ∧ Rd B w' v' (l.drop 2) ∧ Below w.heap.size w w' := by
  subst hn
  exact readNum16_ok w B v l h hl hw

set_option maxRecDepth 100000 in
set_option maxHeartbeats 400000 in
theorem readMarked16 (w : World) (B : Nat) (v : Value) (l : List UInt8) (L : Nat) (h : Rd B w v l) (hl : l.length ≤ 1000000) :
    Calls Try.prog 49 #[v, .int .u64 L] w fun e w' => ∃ v', e = .returned (.tuple #[.int .u64 ((takeMarked 2 L l).1 : Nat), v', .int .i64 ((takeMarked 2 L l).2.2 : Nat)]) ∧ Rd B w' v' (takeMarked 2 L l).2.1 ∧ Below w.heap.size w w' := by
  unfold takeMarked
  by_cases hw : l.length < 2
  · simp only [hw, if_true]
    go_enter Try.func49, Try.ntmps49
    go_wp2_with (go_at_call 54; refine (readNum16_short _ _ _ _ h hw).mono ?_; rintro e w' ⟨rfl, rfl⟩)
    go_ret3
    exact ⟨_, rfl, Rd.nil _ _, Below.refl _ _⟩
  · simp only [hw, if_false]
    have hlt := num_take_lt l 2
    have hw' : 2 ≤ l.length := by omega
    simp only [Nat.reduceMul, Nat.reducePow] at hlt
    obtain ⟨n, hn⟩ : ∃ n, n = num (l.take 2) := ⟨_, rfl⟩
    rw [← hn] at hlt ⊢
    have H : Hid (n = num (l.take 2)) := hn
    clear hn hw
    have hz : IntKind.u64.wrap (n : Int) = n := by rw [IntKind.wrap_u64]; omega
    clear hlt
    by_cases hn : n < L
    · simp only [hn, if_true]
      go_enter Try.func49, Try.ntmps49
      go_wp2_with (go_at_call 54; refine (readNum16_n _ _ _ _ n H.out h hl hw').mono ?_; rintro e w1 ⟨v1, rfl, hr1, hb1⟩)
      go_ret3
      exact ⟨_, rfl, Rd.nil _ _, hb1⟩
    · simp only [hn, if_false]
      go_enter Try.func49, Try.ntmps49
      go_wp2_with (go_at_call 54; refine (readNum16_n _ _ _ _ n H.out h hl hw').mono ?_; rintro e w1 ⟨v1, rfl, hr1, hb1⟩)
      go_ret3
      exact ⟨_, rfl, hr1, hb1⟩

end Go.Proofs.Ytjobmpfnnfmonaa
