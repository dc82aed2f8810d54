/-
  Contracts of math/bits' LeadingZeros64 and Div64, where the divisor's highest bit is set; and of package wide's guess.
-/
import Derived.Test.YtpfoeeiacfadfaaV2Z
import Derived.Test.YtpfoeeiacfadfaaMild2Z
import Derived.Test.YtpfoeeiacfadfaaWdZ
import Derived.BigGuard
namespace Go.Proofs.Ytpfoeeiacfadfaa
open Go.RowKit

theorem lz_any (y : Nat) (hy : 9223372036854775808 ≤ y) (hyB : y < 18446744073709551616) (w : World) :
    Calls Try.prog 86 #[.int .u64 (y : Int)] w fun e w' => e = .returned (.int .i64 0) ∧ w' = w := by
  have hb : Lib.bitLen y = 64 := by
    obtain ⟨b1, b2, b3⟩ := Lib.bitLenAux_bounds 64 y hyB (by omega)
    have h1 : 63 < Lib.bitLenAux 64 y := (Nat.pow_lt_pow_iff_right (by decide : 1 < 2)).1 (Nat.lt_of_le_of_lt hy b3)
    have h2 : Lib.bitLenAux 64 y ≤ 64 := Lib.bitLenAux_le 64 y 64 hyB
    have e : Lib.bitLen y = Lib.bitLenAux 64 y := rfl
    omega
  have HC : Hid (∀ w, Calls Try.prog 68 #[.int .u64 (y : Int)] w fun e w' => e = .returned (.int .i64 64) ∧ w' = w) := fun w => by
    have := Try.bits_Len64 (y : Int) w (by omega) (by omega)
    rw [show (y : Int).toNat = y by omega, hb] at this
    exact this
  clear hb hy hyB
  go_enter Try.func86, Try.ntmps86
  go_wp2_with (go_at_call 68; refine (HC.out _).mono ?_; rintro e w7 ⟨rfl, rfl⟩)
  go_ret
  exact ⟨rfl, rfl⟩

theorem exec_andM {P : Program} {ρ : Operand → Value} {o : Oper} {w : World} (x y : Operand) (T U : TypeId) (ho : o.op = .binOp .and T x y U) (X Z : Nat) (hZ : X % 4294967296 = Z) (h1 : X < 18446744073709551616) (hx : ρ x = .int .u64 (X : Int)) (hy : ρ y = .int .u64 4294967295) :
    (execOp ρ o).run P w = .ok (.value (.int .u64 (Z : Int))) w := by
  subst hZ
  unfold execOp
  simp only [ho, hx, hy, Sem.run_bind, run_eqGuard_no .and (by decide), Result.andThen_ok, binOp, Op.intBits, ne_eq, not_true_eq_false, if_false, Sem.run_pure]
  congr 3
  have h := bits_and_u64_nat X 4294967295 h1 (by omega)
  have e : X &&& 4294967295 = X % 4294967296 := Nat.and_two_pow_sub_one_eq_mod X 32
  rw [e] at h
  exact h
theorem exec_quoU {P : Program} {ρ : Operand → Value} {o : Oper} {w : World} (x y : Operand) (T U : TypeId) (ho : o.op = .binOp .quo T x y U) (X c Z : Nat) (hZ : X / c = Z) (hX : X < 18446744073709551616) (hc : c ≠ 0) (hx : ρ x = .int .u64 (X : Int)) (hy : ρ y = .int .u64 (c : Int)) :
    (execOp ρ o).run P w = .ok (.value (.int .u64 (Z : Int))) w := by
  subst hZ
  unfold execOp
  have h0 : ¬ ((c : Int) = 0) := by omega
  have e : (X : Int).tdiv c = ((X / c : Nat) : Int) := by rw [Int.tdiv_eq_ediv_of_nonneg (by omega)]; rfl
  have hl : X / c ≤ X := Nat.div_le_self _ _
  simp only [ho, hx, hy, Sem.run_bind, run_eqGuard_no .quo (by decide), Result.andThen_ok, binOp, Op.intDiv, ne_eq, not_true_eq_false, if_false, h0, Sem.run_pure, e]
  generalize X / c = q at hl
  rw [IntKind.wrap_u64, Int.emod_eq_of_lt (by omega) (by omega)]

theorem exec_mulU {P : Program} {ρ : Operand → Value} {o : Oper} {w : World} (x y : Operand) (T U : TypeId) (ho : o.op = .binOp .mul T x y U) (X Y Z : Nat) (hZ : X * Y = Z) (h : Z < 18446744073709551616) (hx : ρ x = .int .u64 (X : Int)) (hy : ρ y = .int .u64 (Y : Int)) :
    (execOp ρ o).run P w = .ok (.value (.int .u64 (Z : Int))) w := by
  unfold execOp
  have e : (X : Int) * Y = (Z : Int) := by rw [← hZ]; exact (Int.natCast_mul X Y).symm
  simp only [ho, hx, hy, Sem.run_bind, run_eqGuard_no .mul (by decide), Result.andThen_ok, binOp, Op.intArith, ne_eq, not_true_eq_false, if_false, Sem.run_pure, e]
  rw [IntKind.wrap_u64, Int.emod_eq_of_lt (by omega) (by omega)]
theorem exec_subU {P : Program} {ρ : Operand → Value} {o : Oper} {w : World} (x y : Operand) (T U : TypeId) (ho : o.op = .binOp .sub T x y U) (X Y Z : Nat) (hZ : Z + Y = X) (h : X < 18446744073709551616) (hx : ρ x = .int .u64 (X : Int)) (hy : ρ y = .int .u64 (Y : Int)) :
    (execOp ρ o).run P w = .ok (.value (.int .u64 (Z : Int))) w := by
  unfold execOp
  have e : (X : Int) - Y = (Z : Int) := by omega
  simp only [ho, hx, hy, Sem.run_bind, run_eqGuard_no .sub (by decide), Result.andThen_ok, binOp, Op.intArith, ne_eq, not_true_eq_false, if_false, Sem.run_pure, e]
  rw [IntKind.wrap_u64, Int.emod_eq_of_lt (by omega) (by omega)]
theorem exec_addU {P : Program} {ρ : Operand → Value} {o : Oper} {w : World} (x y : Operand) (T U : TypeId) (ho : o.op = .binOp .add T x y U) (X Y Z : Nat) (hZ : X + Y = Z) (h : Z < 18446744073709551616) (hx : ρ x = .int .u64 (X : Int)) (hy : ρ y = .int .u64 (Y : Int)) :
    (execOp ρ o).run P w = .ok (.value (.int .u64 (Z : Int))) w := by
  unfold execOp
  have e : (X : Int) + Y = (Z : Int) := by omega
  simp only [ho, hx, hy, Sem.run_bind, run_eqGuard_no .add (by decide), Result.andThen_ok, binOp, Op.intArith, ne_eq, not_true_eq_false, if_false, Sem.run_pure, e]
  rw [IntKind.wrap_u64, Int.emod_eq_of_lt (by omega) (by omega)]

theorem exec_mulW {P : Program} {ρ : Operand → Value} {o : Oper} {w : World} (x y : Operand) (T U : TypeId) (ho : o.op = .binOp .mul T x y U) (X Y Z : Int) (hZ : X * Y % 18446744073709551616 = Z) (hx : ρ x = .int .u64 X) (hy : ρ y = .int .u64 Y) :
    (execOp ρ o).run P w = .ok (.value (.int .u64 Z)) w := by
  subst hZ; unfold execOp
  simp only [ho, hx, hy, Sem.run_bind, run_eqGuard_no .mul (by decide), Result.andThen_ok, binOp, Op.intArith, ne_eq, not_true_eq_false, if_false, Sem.run_pure, IntKind.wrap_u64]
theorem exec_addW {P : Program} {ρ : Operand → Value} {o : Oper} {w : World} (x y : Operand) (T U : TypeId) (ho : o.op = .binOp .add T x y U) (X Y Z : Int) (hZ : (X + Y) % 18446744073709551616 = Z) (hx : ρ x = .int .u64 X) (hy : ρ y = .int .u64 Y) :
    (execOp ρ o).run P w = .ok (.value (.int .u64 Z)) w := by
  subst hZ; unfold execOp
  simp only [ho, hx, hy, Sem.run_bind, run_eqGuard_no .add (by decide), Result.andThen_ok, binOp, Op.intArith, ne_eq, not_true_eq_false, if_false, Sem.run_pure, IntKind.wrap_u64]
theorem exec_subW {P : Program} {ρ : Operand → Value} {o : Oper} {w : World} (x y : Operand) (T U : TypeId) (ho : o.op = .binOp .sub T x y U) (X Y Z : Int) (hZ : (X - Y) % 18446744073709551616 = Z) (hx : ρ x = .int .u64 X) (hy : ρ y = .int .u64 Y) :
    (execOp ρ o).run P w = .ok (.value (.int .u64 Z)) w := by
  subst hZ; unfold execOp
  simp only [ho, hx, hy, Sem.run_bind, run_eqGuard_no .sub (by decide), Result.andThen_ok, binOp, Op.intArith, ne_eq, not_true_eq_false, if_false, Sem.run_pure, IntKind.wrap_u64]
theorem exec_shr0 {P : Program} {ρ : Operand → Value} {o : Oper} {w : World} (x y : Operand) (T U : TypeId) (ho : o.op = .binOp .shr T x y U) (X Z : Int) (hZ : X.fdiv (2 ^ (min (0 : Int).toNat IntKind.u64.bits)) = Z) (hx : ρ x = .int .u64 X) (hy : ρ y = .int .u64 0) :
    (execOp ρ o).run P w = .ok (.value (.int .u64 Z)) w := by
  subst hZ; unfold execOp
  have h1 : ¬ ((0 : Int) < 0) := by omega
  simp only [ho, hx, hy, Sem.run_bind, run_eqGuard_no .shr (by decide), Result.andThen_ok, binOp, Op.shift, h1, if_false, Sem.run_pure]
theorem wpList_valG {P : Program} {w : World} {ops : Array Oper} {rest : List Oper} {o : Oper} {a : Act} {Q : Exit → Act → World → Prop} (hw : Region.wanted o (yielded ops a.tmps) = true) (v : Value) (h : (execOp a.eval o).run P w = .ok (.value v) w)
    (hr : wpList P ops Q rest (a.put o.dst v) w) : wpList P ops Q (o :: rest) a w := by
  unfold wpList
  rw [if_pos hw]
  refine .inl ?_
  unfold Oper.wp
  rw [h]
  exact hr
theorem wpList_skipG {P : Program} {w : World} {ops : Array Oper} {rest : List Oper} {o : Oper} {a : Act} {Q : Exit → Act → World → Prop} (hw : Region.wanted o (yielded ops a.tmps) = false) (hr : wpList P ops Q rest (a.put o.dst undef) w) : wpList P ops Q (o :: rest) a w := by
  unfold wpList
  rw [if_neg (by rw [hw]; decide)]
  exact hr
theorem exec_geqU {P : Program} {ρ : Operand → Value} {o : Oper} {w : World} (x y : Operand) (T U : TypeId) (ho : o.op = .binOp .geq T x y U) (X Y : Nat) (b : Bool) (hb : decide (Y ≤ X) = b) (k : IntKind) (hx : ρ x = .int k (X : Int)) (hy : ρ y = .int k (Y : Int)) :
    (execOp ρ o).run P w = .ok (.value (.bool b)) w := by
  subst hb
  unfold execOp
  simp only [ho, hx, hy, Sem.run_bind, run_eqGuard_no .geq (by decide), Result.andThen_ok, binOp, Op.intCmp, ne_eq, not_true_eq_false, if_false, Sem.run_pure, ge_iff_le, Int.ofNat_le]
theorem exec_gtrU {P : Program} {ρ : Operand → Value} {o : Oper} {w : World} (x y : Operand) (T U : TypeId) (ho : o.op = .binOp .gtr T x y U) (X Y : Nat) (b : Bool) (hb : decide (Y < X) = b) (k : IntKind) (hx : ρ x = .int k (X : Int)) (hy : ρ y = .int k (Y : Int)) :
    (execOp ρ o).run P w = .ok (.value (.bool b)) w := by
  subst hb
  unfold execOp
  simp only [ho, hx, hy, Sem.run_bind, run_eqGuard_no .gtr (by decide), Result.andThen_ok, binOp, Op.intCmp, ne_eq, not_true_eq_false, if_false, Sem.run_pure, gt_iff_lt, Int.ofNat_lt]

end Go.Proofs.Ytpfoeeiacfadfaa
