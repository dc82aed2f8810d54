/-
  Contracts of what package compact lays: numbers, sizes, strings.
-/
import Derived.Test.YtjobmpfnnfmonaaW1
namespace Go.Proofs.Ytjobmpfnnfmonaa
open Go.RowKit

set_option maxHeartbeats 400000 in
theorem lay32 (w : World) (base : Nat) (v : Value) (l : List UInt8) (z : Int) (n : Nat) (hz : z = (n : Int)) (h : Own 5 base w v l) (hl : l.length ≤ 10000000) (hbase : base ≤ w.heap.size) :
    Calls Try.prog 34 #[v, .int .u32 z] w fun e w' => ∃ v', e = .returned v' ∧ Own 5 base w' v' (l ++ le n 4) ∧ Below base w w' := by
  subst hz
  go_enter Try.func34, Try.ntmps34
  go_wp2_with (go_at_call 46; refine (width32 _).mono ?_; rintro e w' ⟨rfl, rfl⟩)
  go_loopw [0, 5, 7] (fun b _ i wr => ∃ k : Nat, k ≤ 4 ∧ i = .int .i64 k ∧ Own 5 base wr b (l ++ le n k) ∧ Below base w wr) (fun _ _ i _ => 4 - (intOf i).toNat)
  case atStart => exact ⟨0, by omega, rfl, by simpa [le] using h, Below.refl _ _⟩
  case round =>
    obtain ⟨k, hk, rfl, ho, hb⟩ := hrel
    by_cases hlt : k < 4
    · go_wp2_with (at_builtin; refine wpList_append_rd Try.bt rfl (.tmp 10) (.tmp 16) rfl base _ _ _ _ [UInt8.ofNat (n / 2 ^ (8 * k))] rfl (ho.alloc _) rfl (Rd.one 5 wr _ _ (byte_le n k)) (by simp [le]; omega) (by have := hb.size; simp; omega) ?_; intro v2 w2 ho2 hb2)
      go_roundw
      case rel => exact ⟨k + 1, by omega, by go_num, by rw [le_succ, ← List.append_assoc]; exact ho2, hb.trans (((Below.refl _ _).alloc (by have := hb.size; omega) _).trans hb2)⟩
      case measure => simp [intOf]; omega
    · obtain rfl : k = 4 := by omega
      go_wp2
      go_ret
      exact ⟨_, rfl, ho, hb⟩

set_option maxHeartbeats 400000 in
theorem lay16 (w : World) (base : Nat) (v : Value) (l : List UInt8) (z : Int) (n : Nat) (hz : z = (n : Int)) (h : Own 5 base w v l) (hl : l.length ≤ 10000000) (hbase : base ≤ w.heap.size) :
    Calls Try.prog 48 #[v, .int .u16 z] w fun e w' => ∃ v', e = .returned v' ∧ Own 5 base w' v' (l ++ le n 2) ∧ Below base w w' := by
  subst hz
  go_enter Try.func48, Try.ntmps48
  go_wp2_with (go_at_call 53; refine (width16 _).mono ?_; rintro e w' ⟨rfl, rfl⟩)
  go_loopw [0, 5, 7] (fun b _ i wr => ∃ k : Nat, k ≤ 2 ∧ i = .int .i64 k ∧ Own 5 base wr b (l ++ le n k) ∧ Below base w wr) (fun _ _ i _ => 2 - (intOf i).toNat)
  case atStart => exact ⟨0, by omega, rfl, by simpa [le] using h, Below.refl _ _⟩
  case round =>
    obtain ⟨k, hk, rfl, ho, hb⟩ := hrel
    by_cases hlt : k < 2
    · go_wp2_with (at_builtin; refine wpList_append_rd Try.bt rfl (.tmp 10) (.tmp 16) rfl base _ _ _ _ [UInt8.ofNat (n / 2 ^ (8 * k))] rfl (ho.alloc _) rfl (Rd.one 5 wr _ _ (byte_le n k)) (by simp [le]; omega) (by have := hb.size; simp; omega) ?_; intro v2 w2 ho2 hb2)
      go_roundw
      case rel => exact ⟨k + 1, by omega, by go_num, by rw [le_succ, ← List.append_assoc]; exact ho2, hb.trans (((Below.refl _ _).alloc (by have := hb.size; omega) _).trans hb2)⟩
      case measure => simp [intOf]; omega
    · obtain rfl : k = 2 := by omega
      go_wp2
      go_ret
      exact ⟨_, rfl, ho, hb⟩

set_option maxRecDepth 100000 in
set_option maxHeartbeats 1000000 in
theorem laySize_any (w : World) (base : Nat) (v : Value) (l : List UInt8) (z : Int) (n : Nat) (hz : z = (n : Int)) (h : Own 5 base w v l) (hl : l.length ≤ 1000000) (hbase : base ≤ w.heap.size) :
    Calls Try.prog 37 #[v, .int .u64 z] w fun e w' => ∃ v', e = .returned v' ∧ Own 5 base w' v' (l ++ sizeL n) ∧ Below base w w' := by
  subst hz
  unfold sizeL
  by_cases h1 : n < 253
  · rw [if_pos h1]
    have d1 : decide ((n : Int) < 253) = true := by simp; omega
    have hb0 : Hid ((n : Int) = ((UInt8.ofNat n).toNat : Int)) := byte0 n (by omega)
    clear h1
    go_enter Try.func37, Try.ntmps37
    go_wp2_with (at_builtin; refine wpList_append_rd Try.bt rfl (.tmp 8) (.tmp 11) rfl base _ _ _ _ [UInt8.ofNat n] rfl (h.alloc _) rfl (Rd.one 5 w _ _ ?q1) (by simp; omega) (by simp; omega) ?_; rotate_left; intro v2 w2 ho2 hb2)
    case q1 => first | exact hb0.out | (simp [UInt8.toNat_ofNat'])
    go_ret
    exact ⟨_, rfl, by simpa [le] using ho2, (((Below.refl _ _).alloc hbase _).trans hb2)⟩
  · rw [if_neg h1]
    have d1 : decide ((n : Int) < 253) = false := by simp; omega
    by_cases h2 : n < 65536
    · rw [if_pos h2]
      have d2 : decide ((n : Int) < 65536) = true := by simp; omega
      have hz : Hid (((n : Int) % 65536) = n) := by show _ = _; omega
      clear h1 h2
      go_enter Try.func37, Try.ntmps37
      go_wp2_with (at_builtin; refine wpList_append_rd Try.bt rfl (.tmp 16) (.tmp 17) rfl base _ _ _ _ [253] rfl (h.alloc _) rfl (Rd.one 5 w 253 _ b253) (by simp; omega) (by simp; omega) ?_; intro v2 w2 ho2 hb2)
      refine (lay16 _ base _ _ _ n ?_ ho2 (by simp; omega) (by have := hb2.size; simp at this; omega)).mono ?_
      · first | rfl | exact hz.out
      rintro e w3 ⟨v3, rfl, ho3, hb3⟩
      go_wp2
      go_ret
      exact ⟨_, rfl, by simpa using ho3, (((Below.refl _ _).alloc hbase _).trans hb2).trans hb3⟩
    · rw [if_neg h2]
      have d2 : decide ((n : Int) < 65536) = false := by simp; omega
      by_cases h3 : n < 4294967296
      · rw [if_pos h3]
        have d3 : decide ((n : Int) < 4294967296) = true := by simp; omega
        have hz : Hid (((n : Int) % 4294967296) = n) := by show _ = _; omega
        clear h1 h2 h3
        go_enter Try.func37, Try.ntmps37
        go_wp2_with (at_builtin; refine wpList_append_rd Try.bt rfl (.tmp 25) (.tmp 26) rfl base _ _ _ _ [254] rfl (h.alloc _) rfl (Rd.one 5 w 254 _ b254) (by simp; omega) (by simp; omega) ?_; intro v2 w2 ho2 hb2)
        refine (lay32 _ base _ _ _ n ?_ ho2 (by simp; omega) (by have := hb2.size; simp at this; omega)).mono ?_
        · first | rfl | exact hz.out
        rintro e w3 ⟨v3, rfl, ho3, hb3⟩
        go_wp2
        go_ret
        exact ⟨_, rfl, by simpa using ho3, (((Below.refl _ _).alloc hbase _).trans hb2).trans hb3⟩
      · rw [if_neg h3]
        have d3 : decide ((n : Int) < 4294967296) = false := by simp; omega
        clear h1 h2 h3
        go_enter Try.func37, Try.ntmps37
        go_wp2_with (at_builtin; refine wpList_append_rd Try.bt rfl (.tmp 31) (.tmp 32) rfl base _ _ _ _ [255] rfl (h.alloc _) rfl (Rd.one 5 w 255 _ b255) (by simp; omega) (by simp; omega) ?_; intro v2 w2 ho2 hb2)
        refine (lay64 _ base _ _ n ho2 (by simp; omega) (by have := hb2.size; simp at this; omega)).mono ?_
        rintro e w3 ⟨v3, rfl, ho3, hb3⟩
        go_wp2
        go_ret
        exact ⟨_, rfl, by simpa using ho3, (((Below.refl _ _).alloc hbase _).trans hb2).trans hb3⟩

set_option maxHeartbeats 400000 in
theorem put32_any (w : World) (B : Nat) (v : Value) (l : List UInt8) (z : Int) (n : Nat) (hz : z = (n : Int)) (h : Rd B w v l) (hl : l.length ≤ 1000000) :
    Calls Try.prog 12 #[v, .int .u32 z] w fun e w' => ∃ v', e = .returned v' ∧ Own 5 w.heap.size w' v' (l ++ le n 4) ∧ Below w.heap.size w w' := by
  subst hz
  go_enter Try.func12, Try.ntmps12
  go_wp2_with fail
  refine (fresh_any _ B _ _ _ h (by omega) (by omega) hl).mono ?_
  rintro e w1 ⟨v1, rfl, ho1, hb1⟩
  go_wp2_with fail
  refine (lay32 _ _ _ _ _ n rfl ho1 (by omega) hb1.size).mono ?_
  rintro e w2 ⟨v2, rfl, ho2, hb2⟩
  go_wp2
  go_ret
  exact ⟨_, rfl, ho2, hb1.trans hb2⟩

set_option maxHeartbeats 400000 in
theorem put64_any (w : World) (B : Nat) (v : Value) (l : List UInt8) (n : Nat) (h : Rd B w v l) (hl : l.length ≤ 1000000) :
    Calls Try.prog 13 #[v, .int .u64 n] w fun e w' => ∃ v', e = .returned v' ∧ Own 5 w.heap.size w' v' (l ++ le n 8) ∧ Below w.heap.size w w' := by
  go_enter Try.func13, Try.ntmps13
  go_wp2_with fail
  refine (fresh_any _ B _ _ _ h (by omega) (by omega) hl).mono ?_
  rintro e w1 ⟨v1, rfl, ho1, hb1⟩
  go_wp2_with fail
  refine (lay64 _ _ _ _ n ho1 (by omega) hb1.size).mono ?_
  rintro e w2 ⟨v2, rfl, ho2, hb2⟩
  go_wp2
  go_ret
  exact ⟨_, rfl, ho2, hb1.trans hb2⟩

set_option maxHeartbeats 400000 in
theorem putSize_any (w : World) (B : Nat) (v : Value) (l : List UInt8) (n : Nat) (h : Rd B w v l) (hl : l.length ≤ 1000000) :
    Calls Try.prog 14 #[v, .int .u64 n] w fun e w' => ∃ v', e = .returned v' ∧ Own 5 w.heap.size w' v' (l ++ sizeL n) ∧ Below w.heap.size w w' := by
  go_enter Try.func14, Try.ntmps14
  go_wp2_with fail
  refine (fresh_any _ B _ _ _ h (by omega) (by omega) hl).mono ?_
  rintro e w1 ⟨v1, rfl, ho1, hb1⟩
  go_wp2_with fail
  refine (laySize_any _ _ _ _ _ n rfl ho1 hl hb1.size).mono ?_
  rintro e w2 ⟨v2, rfl, ho2, hb2⟩
  go_wp2
  go_ret
  exact ⟨_, rfl, ho2, hb1.trans hb2⟩

end Go.Proofs.Ytjobmpfnnfmonaa
