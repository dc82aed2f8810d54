/-
  Contracts of math/bits' Div64 (the divisor's highest bit is set), and of package wide's guess and divideWord.
-/
import Derived.Test.YtpfoeeiacfadfaaV9
import Derived.Test.YtpfoeeiacfadfaaMem2
import Derived.Test.YtpfoeeiacfadfaaWd4
import Derived.Test.YtpfoeeiacfadfaaV3
namespace Go.Proofs.Ytpfoeeiacfadfaa
open Go.RowKit

set_option maxHeartbeats 1000000 in
theorem div64_zero (l y : Nat) (hy : y ≠ 0) (hl : l < 18446744073709551616) (w : World) :
    Calls Try.prog 85 #[.int .u64 ((0 : Nat) : Int), .int .u64 (l : Int), .int .u64 (y : Int)] w fun e w' => (∃ r, e = .returned (.tuple #[.int .u64 ((l / y : Nat) : Int), r])) ∧ Below w.heap.size w w' := by
  have y0 : ((y : Int) == 0) = false := by simp; omega
  have yh : ¬ ((y : Int) ≤ 0) := by omega
  obtain ⟨q, hq⟩ : ∃ q, l / y = q := ⟨_, rfl⟩
  obtain ⟨r, hr⟩ : ∃ q, l % y = q := ⟨_, rfl⟩
  have HQ : Hid (l / y = q) := hq
  have HR : Hid (l % y = r) := hr
  have HL : Hid (l < 18446744073709551616) := hl
  have HY : Hid (y ≠ 0) := hy
  rw [hq]
  clear hq hr hl hy
  go_enter Try.func85, Try.ntmps85
  go_wp2
  have F := N_fit 24 w [] [] (fun _ _ _ _ => False) (fun _ _ _ _ _ h => h)
  refine Mild2.wp_region F (by kernel_rfl) (by kernel_rfl) (Vw.draw _) ?_
  iterate 2 (refine Mild2.step_quiet F rfl rfl rfl (fun w0 hC hF K hK => ?_); clear hF; go_big_quiet_op; refine hK _ ?_; clear hK K hC; clear w0)
  refine Mild2.step_known F rfl rfl (.int .u64 (q : Nat)) (fun w0 hC _ => exec_quoU (.tmp 28) (.tmp 29) _ _ rfl l y q HQ.out HL.out HY.out rfl rfl) ?_
  simp only [Act.put, List.setIfInBounds_toArray, List.set_cons_succ, List.set_cons_zero]
  iterate 2 (refine Mild2.step_quiet F rfl rfl rfl (fun w0 hC hF K hK => ?_); clear hF; go_big_quiet_op; refine hK _ ?_; clear hK K hC; clear w0)
  refine Mild2.step_known F rfl rfl (.int .u64 (r : Nat)) (fun w0 hC _ => exec_remN (.tmp 31) (.tmp 32) _ _ rfl l y r HR.out HY.out .u64 rfl rfl) ?_
  simp only [Act.put, List.setIfInBounds_toArray, List.set_cons_succ, List.set_cons_zero]
  iterate 2 (refine Mild2.step_quiet F rfl rfl rfl (fun w0 hC hF K hK => ?_); clear hF; go_big_quiet_op; refine hK _ ?_; clear hK K hC; clear w0)
  intro w8 hw8 hf8
  have hb8 : Below w.heap.size w w8 := hw8.below (fun _ _ _ hv => hv.1) (Nat.le_refl _)
  clear hf8 hw8 F
  go_wp2
  go_ret2
  exact ⟨⟨_, rfl⟩, hb8⟩

theorem div64_any (h l y : Nat) (hy : 9223372036854775808 ≤ y) (hyB : y < 18446744073709551616) (hh : h < y) (hl : l < 18446744073709551616) (w : World) :
    Calls Try.prog 85 #[.int .u64 (h : Int), .int .u64 (l : Int), .int .u64 (y : Int)] w fun e w' => (∃ r, e = .returned (.tuple #[.int .u64 (((h * 18446744073709551616 + l) / y : Nat) : Int), r])) ∧ Below w.heap.size w w' := by
  by_cases h0 : h = 0
  · subst h0
    have := div64_zero l y (by omega) hl w
    rw [Nat.zero_mul, Nat.zero_add]
    exact this
  · refine (div64_big h l y hy hyB hh hl h0 w).mono ?_
    rintro e w' ⟨r, rfl, rfl⟩
    exact ⟨⟨r, rfl⟩, Below.refl _ _⟩

theorem guess_any (t n d : Nat) (hd : 9223372036854775808 ≤ d) (hdB : d < 18446744073709551616) (hn : n < 18446744073709551616) (w : World) :
    Calls Try.prog 84 #[.int .u64 (t : Int), .int .u64 (n : Int), .int .u64 (d : Int)] w fun e w' => e = .returned (.int .u64 ((gsN t n d : Nat) : Int)) ∧ Below w.heap.size w w' := by
  by_cases h : d ≤ t
  · have HT : Hid (decide (d ≤ t) = true) := decide_eq_true h
    have HR : Hid (gsN t n d = 18446744073709551615) := by show _ = _; unfold gsN; rw [if_pos h]
    clear h hd hdB hn
    go_enter Try.func84, Try.ntmps84
    go_wp2_with ((first
      | (refine wpList_val rfl (.bool true) (exec_geqU (.tmp 9) (.tmp 10) _ _ rfl t d true HT.out .u64 rfl rfl) ?_)); try simp only [Act.put, List.setIfInBounds_toArray, List.set_cons_succ, List.set_cons_zero])
    go_ret
    exact ⟨by rw [HR.out]; rfl, Below.refl _ _⟩
  · have HT : Hid (decide (d ≤ t) = false) := decide_eq_false h
    have HR : Hid (gsN t n d = (t * 18446744073709551616 + n) / d) := by show _ = _; unfold gsN; rw [if_neg h]
    have HC : Hid (∀ w, Calls Try.prog 85 #[.int .u64 (t : Int), .int .u64 (n : Int), .int .u64 (d : Int)] w fun e w' => (∃ r, e = .returned (.tuple #[.int .u64 ((gsN t n d : Nat) : Int), r])) ∧ Below w.heap.size w w') := fun w => by
      rw [HR.out]; exact div64_any t n d hd hdB (by omega) hn w
    clear h hd hdB hn HR
    go_enter Try.func84, Try.ntmps84
    go_wp2_with ((first
      | (refine wpList_val rfl (.bool false) (exec_geqU (.tmp 9) (.tmp 10) _ _ rfl t d false HT.out .u64 rfl rfl) ?_)
      | (go_at_call 85; refine (HC.out _).mono ?_; rintro e w7 ⟨⟨r, rfl⟩, b7⟩)); try simp only [Act.put, List.setIfInBounds_toArray, List.set_cons_succ, List.set_cons_zero])
    go_ret
    exact ⟨rfl, b7⟩

theorem exec_eqlU {P : Program} {ρ : Operand → Value} {o : Oper} {w : World} (x y : Operand) (T U : TypeId) (ho : o.op = .binOp .eql T x y U) (X Y : Nat) (b : Bool) (hb : decide (X = Y) = b) (k : IntKind) (hx : ρ x = .int k (X : Int)) (hy : ρ y = .int k (Y : Int)) :
    (execOp ρ o).run P w = .ok (.value (.bool b)) w := by
  subst hb
  unfold execOp
  have e : ((X : Int) == (Y : Int)) = decide (X = Y) := by rw [Bool.eq_iff_iff]; simp; omega
  simp [ho, hx, hy, eqGuard, binOp, Op.intCmp, e]

end Go.Proofs.Ytpfoeeiacfadfaa
