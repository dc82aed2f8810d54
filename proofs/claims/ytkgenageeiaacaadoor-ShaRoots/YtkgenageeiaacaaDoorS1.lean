/-
  Contracts of package sha's rotated, turned, and of the document's turn.
-/
import Derived.Test.YtkgenageeiaacaaDoorRows
import Derived.Test.YtkgenageeiaacaaDoorE32
import Derived.WalkLawsBesides
namespace Go.Proofs.YtkgenageeiaacaaDoor
open Go.RowKit

theorem Tryd.i64 : Tryd.prog.underlying 3 = some (.int .i64) := by kernel_rfl
theorem Tryd.uint : Tryd.prog.underlying 43 = some (.int .u64) := by kernel_rfl
theorem Tryd.u64' : Tryd.prog.underlying 34 = some (.int .u64) := by kernel_rfl
theorem Tryd.u32 : Tryd.prog.underlying 38 = some (.int .u32) := by kernel_rfl
theorem Tryd.u8 : Tryd.prog.underlying 5 = some (.int .u8) := by kernel_rfl
theorem Tryd.one32 : (Tryd.prog.info? 38).map (·.size) = some 1 := by kernel_rfl
theorem Tryd.one8 : (Tryd.prog.info? 5).map (·.size) = some 1 := by kernel_rfl
theorem Tryd.bs : Tryd.prog.underlying 22 = some (.slice 5) := by kernel_rfl
theorem Tryd.ns : Tryd.prog.underlying 39 = some (.slice 38) := by kernel_rfl
theorem Tryd.a8 : AT Tryd.prog 44 38 8 (.int .u32 0) := ⟨by kernel_rfl, by kernel_rfl, by kernel_rfl, by kernel_rfl⟩
theorem Tryd.a64 : AT Tryd.prog 54 38 64 (.int .u32 0) := ⟨by kernel_rfl, by kernel_rfl, by kernel_rfl, by kernel_rfl⟩
theorem Tryd.ah : AT Tryd.prog 24 5 32 (.int .u8 0) := ⟨by kernel_rfl, by kernel_rfl, by kernel_rfl, by kernel_rfl⟩
theorem Tryd.bt : BT Tryd.prog 22 5 := ⟨by kernel_rfl, by kernel_rfl, by kernel_rfl⟩

theorem turn_any (n x : Nat) (hn : n ≤ 32) (w : World) :
    Calls Tryd.prog 32 #[.int .u32 (x : Int), .int .u64 (n : Int)] w fun e w' => e = .returned (.int .u32 ((rr n x : Nat) : Int)) ∧ w' = w := by
  have HN : Hid (n ≤ 32) := hn
  obtain ⟨c, ec⟩ : ∃ c, c = 32 - n := ⟨_, rfl⟩
  have HC : Hid (c + n = 32 ∧ c ≤ 32) := ⟨by omega, by omega⟩
  have HR : Hid (rr n x = og (rS n x) (lS c x)) := by show _ = _; rw [ec]; rfl
  have H0 : Hid (32 < 18446744073709551616) := by show _ < _; decide
  clear hn ec
  go_enter Tryd.func32, Tryd.ntmps32
  go_wp2_with ((first
    | (refine wpList_val rfl (.int .u32 ((rS n x : Nat) : Int)) (exec_rS (.tmp 5) (.tmp 6) _ _ rfl x n .u64 n rfl HN.out rfl rfl) ?_)
    | (refine wpList_val rfl (.int .u64 (c : Int)) (x_subU (.const (.int .u64 32)) (.tmp 9) _ _ rfl 32 n c HC.out.1 H0.out rfl rfl) ?_)
    | (refine wpList_val rfl (.int .u32 ((lS c x : Nat) : Int)) (exec_lS (.tmp 8) (.tmp 10) _ _ rfl x c .u64 c rfl HC.out.2 rfl rfl) ?_)
    | (refine wpList_val rfl (.int .u32 ((og (rS n x) (lS c x) : Nat) : Int)) (exec_og (.tmp 7) (.tmp 11) _ _ rfl (rS n x) (lS c x) rfl rfl) ?_)); try simp only [Act.put, List.setIfInBounds_toArray, List.set_cons_succ, List.set_cons_zero])
  go_ret
  exact ⟨by rw [HR.out]; rfl, rfl⟩

theorem and31 (n : Nat) (h0 : 0 < n) (hn : n < 32) : (18446744073709551616 - n) &&& 31 = 32 - n := by
  have : ∀ m : Fin 32, 0 < m.val → (18446744073709551616 - m.val) &&& 31 = 32 - m.val := by decide
  exact this ⟨n, hn⟩ h0
theorem wrapNeg (n : Nat) (h0 : 0 < n) (hn : n < 32) : IntKind.u64.wrap (-(n : Int)) = ((18446744073709551616 - n : Nat) : Int) := by
  rw [IntKind.wrap_u64]; omega

theorem rotl_any (n x : Nat) (h0 : 0 < n) (hn : n < 32) (w : World) :
    Calls Tryd.prog 39 #[.int .u32 (x : Int), .int .i64 (-(n : Int))] w fun e w' => e = .returned (.int .u32 ((rr n x : Nat) : Int)) ∧ w' = w := by
  have HW := wrapNeg n h0 hn
  have HA := and31 n h0 hn
  obtain ⟨z, ez⟩ : ∃ z, 18446744073709551616 - n = z := ⟨_, rfl⟩
  obtain ⟨c, ec⟩ : ∃ c, 32 - n = c := ⟨_, rfl⟩
  have HW : Hid (IntKind.u64.wrap (-(n : Int)) = (z : Int)) := by rw [← ez]; exact HW
  have HA : Hid (z &&& 31 = c) := by show _ = _; rw [← ez, HA]; exact ec
  have HZ : Hid (z < 18446744073709551616 ∧ 31 < 18446744073709551616 ∧ 32 < 18446744073709551616) := ⟨by omega, by decide, by decide⟩
  have HC : Hid (n + c = 32 ∧ c ≤ 32 ∧ n ≤ 32) := ⟨by omega, by omega, by omega⟩
  have HR : Hid (rr n x = og (lS c x) (rS n x)) := by show _ = _; unfold rr; rw [ec, og_comm]
  have HM : Hid (∃ m : Int, -(n : Int) = m) := ⟨_, rfl⟩
  obtain ⟨m, em⟩ := HM.out
  rw [em] at HW ⊢
  clear h0 hn ez ec HM em
  go_enter Tryd.func39, Tryd.ntmps39
  go_wp2_with ((first
    | (refine wpList_val rfl (.int .u64 (z : Int)) (exec_conv Tryd.i64 Tryd.uint (.tmp 6) rfl m z HW.out rfl) ?_)
    | (refine wpList_val rfl (.int .u64 (c : Int)) (x_andU (.tmp 7) (.const (.int .u64 31)) _ _ rfl z 31 c HA.out HZ.out.1 HZ.out.2.1 rfl rfl) ?_)
    | (refine wpList_val rfl (.int .u32 ((lS c x : Nat) : Int)) (exec_lS (.tmp 9) (.tmp 10) _ _ rfl x c .u64 c rfl HC.out.2.1 rfl rfl) ?_)
    | (refine wpList_val rfl (.int .u64 (n : Int)) (x_subU (.const (.int .u64 32)) (.tmp 13) _ _ rfl 32 c n HC.out.1 HZ.out.2.2 rfl rfl) ?_)
    | (refine wpList_val rfl (.int .u32 ((rS n x : Nat) : Int)) (exec_rS (.tmp 12) (.tmp 14) _ _ rfl x n .u64 n rfl HC.out.2.2 rfl rfl) ?_)
    | (refine wpList_val rfl (.int .u32 ((og (lS c x) (rS n x) : Nat) : Int)) (exec_og (.tmp 11) (.tmp 15) _ _ rfl (lS c x) (rS n x) rfl rfl) ?_)); try simp only [Act.put, List.setIfInBounds_toArray, List.set_cons_succ, List.set_cons_zero])
  go_ret
  exact ⟨by rw [HR.out]; rfl, rfl⟩

theorem rotated_any (n x : Nat) (h0 : 0 < n) (hn : n < 32) (w : World) :
    Calls Tryd.prog 37 #[.int .u32 (x : Int), .int .i64 (n : Int)] w fun e w' => e = .returned (.int .u32 ((rr n x : Nat) : Int)) ∧ w' = w := by
  obtain ⟨m, em⟩ : ∃ m : Int, -(n : Int) = m := ⟨_, rfl⟩
  have HC : Hid (∀ w : World, Calls Tryd.prog 39 #[.int .u32 (x : Int), .int .i64 m] w fun e w' => e = .returned (.int .u32 ((rr n x : Nat) : Int)) ∧ w' = w) := fun w => by rw [← em]; exact rotl_any n x h0 hn w
  have HM : Hid ((0 : Int) - n = m ∧ -9223372036854775808 ≤ m ∧ m < 9223372036854775808) := ⟨by omega, by omega, by omega⟩
  clear h0 hn em
  go_enter Tryd.func37, Tryd.ntmps37
  go_wp2_with ((first
    | (refine wpList_val rfl (.int .i64 m) (x_negI (.tmp 6) _ rfl n m HM.out.1 HM.out.2.1 HM.out.2.2 rfl) ?_)
    | (go_at_call 39; refine (HC.out _).mono ?_; rintro e w7 ⟨rfl, rfl⟩)); try simp only [Act.put, List.setIfInBounds_toArray, List.set_cons_succ, List.set_cons_zero])
  go_ret
  exact ⟨rfl, rfl⟩

theorem turned_any (i j k x : Nat) (h : (0 < i ∧ i < 32) ∧ (0 < j ∧ j < 32) ∧ (0 < k ∧ k < 32)) (w : World) :
    Calls Tryd.prog 34 #[.int .u32 (x : Int), .int .i64 (i : Int), .int .i64 (j : Int), .int .i64 (k : Int)] w fun e w' => e = .returned (.int .u32 ((tn i j k x : Nat) : Int)) ∧ w' = w := by
  have HI : Hid (∀ w : World, Calls Tryd.prog 37 #[.int .u32 (x : Int), .int .i64 (i : Int)] w fun e w' => e = .returned (.int .u32 ((rr i x : Nat) : Int)) ∧ w' = w) := rotated_any i x h.1.1 h.1.2
  have HJ : Hid (∀ w : World, Calls Tryd.prog 37 #[.int .u32 (x : Int), .int .i64 (j : Int)] w fun e w' => e = .returned (.int .u32 ((rr j x : Nat) : Int)) ∧ w' = w) := rotated_any j x h.2.1.1 h.2.1.2
  have HK : Hid (∀ w : World, Calls Tryd.prog 37 #[.int .u32 (x : Int), .int .i64 (k : Int)] w fun e w' => e = .returned (.int .u32 ((rr k x : Nat) : Int)) ∧ w' = w) := rotated_any k x h.2.2.1 h.2.2.2
  have HR : Hid (tn i j k x = xo (xo (rr i x) (rr j x)) (rr k x)) := rfl
  clear h
  go_enter Tryd.func34, Tryd.ntmps34
  go_wp2_with ((first
    | (go_at_call 37; refine (HI.out _).mono ?_; rintro e w7 ⟨rfl, rfl⟩; clear HI)
    | (go_at_call 37; refine (HJ.out _).mono ?_; rintro e w7 ⟨rfl, rfl⟩; clear HJ)
    | (go_at_call 37; refine (HK.out _).mono ?_; rintro e w7 ⟨rfl, rfl⟩; clear HK)
    | (refine wpList_val rfl (.int .u32 ((xo (rr i x) (rr j x) : Nat) : Int)) (exec_xo (.tmp 11) (.tmp 14) _ _ rfl (rr i x) (rr j x) rfl rfl) ?_)
    | (refine wpList_val rfl (.int .u32 ((xo (xo (rr i x) (rr j x)) (rr k x) : Nat) : Int)) (exec_xo (.tmp 15) (.tmp 18) _ _ rfl (xo (rr i x) (rr j x)) (rr k x) rfl rfl) ?_)); try simp only [Act.put, List.setIfInBounds_toArray, List.set_cons_succ, List.set_cons_zero])
  go_ret
  exact ⟨by rw [HR.out]; rfl, rfl⟩
end Go.Proofs.YtkgenageeiaacaaDoor
