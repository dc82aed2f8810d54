/-
  Contracts of the leaves of package compact.
-/
import Derived.Test.YtjobmpfnnfmonaaRows
import Derived.Test.YtjobmpfnnfmonaaBytes
import Derived.Test.YtjobmpfnnfmonaaMild
import Derived.Test.YtjobmpfnnfmonaaNum
import Derived.WalkLawsBesides
namespace Go.Proofs.Ytjobmpfnnfmonaa
open Go.RowKit

theorem Try.bt : BT Try.prog 22 5 := ⟨by kernel_rfl, by kernel_rfl, by kernel_rfl⟩

set_option maxRecDepth 100000 in
set_option maxHeartbeats 400000 in
theorem len64_max (w : World) : Calls Try.prog 52 #[.int .u64 18446744073709551615] w fun e w' => e = .returned (.int .i64 64) ∧ w = w' := by
  go_enter Try.func52, Try.ntmps52
  go_wp2
  go_ret
  exact ⟨by kernel_rfl, rfl⟩

set_option maxRecDepth 100000 in
set_option maxHeartbeats 400000 in
theorem len64_32 (w : World) : Calls Try.prog 52 #[.int .u64 4294967295] w fun e w' => e = .returned (.int .i64 32) ∧ w = w' := by
  go_enter Try.func52, Try.ntmps52
  go_wp2
  go_ret
  exact ⟨by kernel_rfl, rfl⟩

set_option maxRecDepth 100000 in
set_option maxHeartbeats 400000 in
theorem len64_16 (w : World) : Calls Try.prog 52 #[.int .u64 65535] w fun e w' => e = .returned (.int .i64 16) ∧ w = w' := by
  go_enter Try.func52, Try.ntmps52
  go_wp2
  go_ret
  exact ⟨by kernel_rfl, rfl⟩

set_option maxHeartbeats 400000 in
theorem width64 (w : World) : Calls Try.prog 47 #[] w fun e w' => e = .returned (.int .i64 8) ∧ w = w' := by
  go_enter Try.func47, Try.ntmps47
  go_wp2_with (go_at_call 52; refine (len64_max _).mono ?_; rintro e w' ⟨rfl, rfl⟩)
  go_ret
  exact ⟨rfl, rfl⟩

set_option maxHeartbeats 400000 in
theorem width32 (w : World) : Calls Try.prog 46 #[] w fun e w' => e = .returned (.int .i64 4) ∧ w = w' := by
  go_enter Try.func46, Try.ntmps46
  go_wp2_with (go_at_call 52; refine (len64_32 _).mono ?_; rintro e w' ⟨rfl, rfl⟩)
  go_ret
  exact ⟨rfl, rfl⟩

set_option maxHeartbeats 400000 in
theorem width16 (w : World) : Calls Try.prog 53 #[] w fun e w' => e = .returned (.int .i64 2) ∧ w = w' := by
  go_enter Try.func53, Try.ntmps53
  go_wp2_with (go_at_call 52; refine (len64_16 _).mono ?_; rintro e w' ⟨rfl, rfl⟩)
  go_ret
  exact ⟨rfl, rfl⟩

set_option maxHeartbeats 400000 in
theorem fresh_any (w : World) (B : Nat) (v : Value) (l : List UInt8) (r : Int) (h : Rd B w v l) (hr0 : 0 ≤ r) (hr : r ≤ 1000000) (hl : l.length ≤ 1000000) :
    Calls Try.prog 35 #[v, .int .i64 r] w fun e w' => ∃ v', e = .returned v' ∧ Own 5 w.heap.size w' v' l ∧ Below w.heap.size w w' := by
  have hrd := h
  obtain ⟨ao, cap, rfl, h1, h2, h3⟩ := h
  clear h3 h2 h1
  go_enter Try.func35, Try.ntmps35
  go_wp2_with (first
    | (at_make; refine wpList_make_rd Try.bt rfl _ _ rfl w.heap.size _ _ _ rfl rfl (by omega) (by omega) (Nat.le_refl _) ?_; intro v1 w1 ho1 hb1)
    | (at_builtin; refine wpList_append_rd Try.bt rfl (.tmp 9) (.tmp 10) rfl w.heap.size w.heap.size _ _ [] l rfl ho1 rfl (hrd.self.below hb1) (by simp; omega) hb1.size ?_; intro v2 w2 ho2 hb2))
  go_ret
  exact ⟨_, rfl, ho2, hb1.trans hb2⟩

set_option maxHeartbeats 400000 in
theorem own_any (w : World) (B : Nat) (v : Value) (l : List UInt8) (h : Rd B w v l) (hl : l.length ≤ 1000000) :
    Calls Try.prog 11 #[v] w fun e w' => ∃ v', e = .returned v' ∧ Own 5 w.heap.size w' v' l ∧ Below w.heap.size w w' := by
  have hrd := h
  obtain ⟨ao, cap, rfl, h1, h2, h3⟩ := h
  clear h3 h2 h1
  go_enter Try.func11, Try.ntmps11
  go_wp2_with (first
    | (at_make; refine wpList_make_rd Try.bt rfl _ _ rfl w.heap.size _ _ _ rfl rfl (by omega) (by omega) (Nat.le_refl _) ?_; intro v1 w1 ho1 hb1)
    | (at_builtin; refine wpList_append_rd Try.bt rfl (.tmp 8) (.tmp 9) rfl w.heap.size w.heap.size _ _ [] l rfl ho1 rfl (hrd.self.below hb1) (by simp; omega) hb1.size ?_; intro v2 w2 ho2 hb2))
  go_ret
  exact ⟨_, rfl, ho2, hb1.trans hb2⟩

set_option maxHeartbeats 400000 in
theorem lay64 (w : World) (base : Nat) (v : Value) (l : List UInt8) (n : Nat) (h : Own 5 base w v l) (hl : l.length ≤ 10000000) (hbase : base ≤ w.heap.size) :
    Calls Try.prog 36 #[v, .int .u64 n] w fun e w' => ∃ v', e = .returned v' ∧ Own 5 base w' v' (l ++ le n 8) ∧ Below base w w' := by
  go_enter Try.func36, Try.ntmps36
  go_wp2_with (go_at_call 47; refine (width64 _).mono ?_; rintro e w' ⟨rfl, rfl⟩)
  go_loopw [0, 5, 7] (fun b _ i wr => ∃ k : Nat, k ≤ 8 ∧ i = .int .i64 k ∧ Own 5 base wr b (l ++ le n k) ∧ Below base w wr) (fun _ _ i _ => 8 - (intOf i).toNat)
  case atStart => exact ⟨0, by omega, rfl, by simpa [le] using h, Below.refl _ _⟩
  case round =>
    obtain ⟨k, hk, rfl, ho, hb⟩ := hrel
    by_cases hlt : k < 8
    · go_wp2_with (at_builtin; refine wpList_append_rd Try.bt rfl (.tmp 10) (.tmp 16) rfl base _ _ _ _ [UInt8.ofNat (n / 2 ^ (8 * k))] rfl (ho.alloc _) rfl (Rd.one 5 wr _ _ (byte_le n k)) (by simp [le]; omega) (by have := hb.size; simp; omega) ?_; intro v2 w2 ho2 hb2)
      go_roundw
      case rel => exact ⟨k + 1, by omega, by go_num, by rw [le_succ, ← List.append_assoc]; exact ho2, hb.trans (((Below.refl _ _).alloc (by have := hb.size; omega) _).trans hb2)⟩
      case measure => simp [intOf]; omega
    · obtain rfl : k = 8 := by omega
      go_wp2
      go_ret
      exact ⟨_, rfl, ho, hb⟩
end Go.Proofs.Ytjobmpfnnfmonaa
