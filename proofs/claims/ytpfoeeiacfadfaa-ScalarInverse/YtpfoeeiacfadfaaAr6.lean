/-
  Plain facts on single operations over words: shifts by a number of bits, differences, or; each told as the value that it yields.
-/
import Derived.Test.YtpfoeeiacfadfaaAr5
import Derived.Laws.Bits64b
namespace Go.Proofs.Ytpfoeeiacfadfaa
open Go.RowKit
section
variable {P : Program}
/-- An operation whose value is known. -/
theorem wpList_val {w : World} {ops : Array Oper} {rest : List Oper} {o : Oper} {a : Act} {Q : Exit → Act → World → Prop} (hgd : o.guard = none) (v : Value) (h : (execOp a.eval o).run P w = .ok (.value v) w)
    (hr : wpList P ops Q rest (a.put o.dst v) w) : wpList P ops Q (o :: rest) a w := by
  refine wpList_plain hgd fun K hK => ?_
  unfold Oper.wp
  rw [h]
  exact hK _ _ hr

theorem run_eqGuard_no (op : BinOp) (h : op ≠ .eql ∧ op ≠ .neq) (t : TypeId) (x y : Operand) (a b : Value) (w : World) : (eqGuard op t x y a b).run P w = .ok () w := by
  cases op <;> simp_all [eqGuard]

theorem exec_shl {ρ : Operand → Value} {o : Oper} {w : World} (x y : Operand) (T U : TypeId) (ho : o.op = .binOp .shl T x y U) (X c : Nat) (k : IntKind) (u : Int) (hu : u = (c : Int)) (hc : c ≤ 64) (hx : ρ x = .int .u64 (X : Int)) (hy : ρ y = .int k u) :
    (execOp ρ o).run P w = .ok (.value (.int .u64 ((X * 2 ^ c % 18446744073709551616 : Nat) : Int))) w := by
  subst hu
  unfold execOp
  simp only [ho, hx, hy, Sem.run_bind, run_eqGuard_no .shl (by decide), Result.andThen_ok, binOp, Op.shift]
  have h1 : ¬ ((c : Int) < 0) := by omega
  have h2 : min (c : Int).toNat IntKind.u64.bits = c := by
    have : IntKind.u64.bits = 64 := rfl
    rw [this]; omega
  rw [if_neg h1, h2]
  simp only [Sem.run_pure, Result.andThen_ok, IntKind.wrap_u64]
  congr 3
theorem exec_shr {ρ : Operand → Value} {o : Oper} {w : World} (x y : Operand) (T U : TypeId) (ho : o.op = .binOp .shr T x y U) (X c : Nat) (k : IntKind) (u : Int) (hu : u = (c : Int)) (hc : c ≤ 64) (hx : ρ x = .int .u64 (X : Int)) (hy : ρ y = .int k u) :
    (execOp ρ o).run P w = .ok (.value (.int .u64 ((X / 2 ^ c : Nat) : Int))) w := by
  subst hu
  unfold execOp
  simp only [ho, hx, hy, Sem.run_bind, run_eqGuard_no .shr (by decide), Result.andThen_ok, binOp, Op.shift]
  have h1 : ¬ ((c : Int) < 0) := by omega
  have h2 : min (c : Int).toNat IntKind.u64.bits = c := by
    have : IntKind.u64.bits = 64 := rfl
    rw [this]; omega
  rw [if_neg h1, h2]
  simp only [Sem.run_pure, Result.andThen_ok]
  congr 3
  have e : ((2 : Int) ^ c) = ((2 ^ c : Nat) : Int) := by simp [Int.natCast_pow]
  rw [e, Int.fdiv_eq_ediv_of_nonneg _ (Int.natCast_nonneg _)]
  rfl
theorem exec_subI {ρ : Operand → Value} {o : Oper} {w : World} (x y : Operand) (T U : TypeId) (ho : o.op = .binOp .sub T x y U) (X Y Z : Int) (hZ : X - Y = Z) (h1 : -9223372036854775808 ≤ Z) (h2 : Z < 9223372036854775808) (hx : ρ x = .int .i64 X) (hy : ρ y = .int .i64 Y) :
    (execOp ρ o).run P w = .ok (.value (.int .i64 Z)) w := by
  subst hZ
  unfold execOp
  simp only [ho, hx, hy, Sem.run_bind, run_eqGuard_no .sub (by decide), Result.andThen_ok, binOp, Op.intArith, ne_eq, not_true_eq_false, if_false, Sem.run_pure]
  congr 3
  unfold IntKind.wrap
  have e1 : IntKind.i64.bits = 64 := rfl
  have e2 : IntKind.i64.signed = true := rfl
  simp only [e1, e2, Bool.true_and, decide_eq_true_eq]
  split <;> omega
theorem exec_or {ρ : Operand → Value} {o : Oper} {w : World} (x y : Operand) (T U : TypeId) (ho : o.op = .binOp .or T x y U) (X Y Z : Nat) (hZ : X ||| Y = Z) (h1 : X < 18446744073709551616) (h2 : Y < 18446744073709551616) (hx : ρ x = .int .u64 (X : Int)) (hy : ρ y = .int .u64 (Y : Int)) :
    (execOp ρ o).run P w = .ok (.value (.int .u64 (Z : Int))) w := by
  subst hZ
  unfold execOp
  simp only [ho, hx, hy, Sem.run_bind, run_eqGuard_no .or (by decide), Result.andThen_ok, binOp, Op.intBits, ne_eq, not_true_eq_false, if_false, Sem.run_pure]
  congr 3
  exact bits_or_u64_nat X Y h1 h2
theorem wrap_small (x : Int) (h1 : -9223372036854775808 ≤ x) (h2 : x < 9223372036854775808) : IntKind.i64.wrap x = x := by
  unfold IntKind.wrap
  have e1 : IntKind.i64.bits = 64 := rfl
  have e2 : IntKind.i64.signed = true := rfl
  simp only [e1, e2, Bool.true_and, decide_eq_true_eq]
  split <;> omega
theorem exec_quoN {ρ : Operand → Value} {o : Oper} {w : World} (x y : Operand) (T U : TypeId) (ho : o.op = .binOp .quo T x y U) (X c Z : Nat) (hZ : X / c = Z) (hX : X < 9223372036854775808) (hc : c ≠ 0) (hx : ρ x = .int .i64 (X : Int)) (hy : ρ y = .int .i64 (c : Int)) :
    (execOp ρ o).run P w = .ok (.value (.int .i64 (Z : Int))) w := by
  subst hZ
  unfold execOp
  have h0 : ¬ ((c : Int) = 0) := by omega
  have e : (X : Int).tdiv c = ((X / c : Nat) : Int) := by rw [Int.tdiv_eq_ediv_of_nonneg (by omega)]; rfl
  have hl : X / c ≤ X := Nat.div_le_self _ _
  simp only [ho, hx, hy, Sem.run_bind, run_eqGuard_no .quo (by decide), Result.andThen_ok, binOp, Op.intDiv, ne_eq, not_true_eq_false, if_false, h0, Sem.run_pure, e]
  generalize X / c = q at hl
  rw [wrap_small _ (by omega) (by omega)]
theorem exec_remN {ρ : Operand → Value} {o : Oper} {w : World} (x y : Operand) (T U : TypeId) (ho : o.op = .binOp .rem T x y U) (X c Z : Nat) (hZ : X % c = Z) (hc : c ≠ 0) (k : IntKind) (hx : ρ x = .int k (X : Int)) (hy : ρ y = .int k (c : Int)) :
    (execOp ρ o).run P w = .ok (.value (.int k (Z : Int))) w := by
  subst hZ
  unfold execOp
  have h0 : ¬ ((c : Int) = 0) := by omega
  have e : (X : Int).tmod c = ((X % c : Nat) : Int) := by rw [Int.tmod_eq_emod_of_nonneg (by omega)]; rfl
  simp only [ho, hx, hy, Sem.run_bind, run_eqGuard_no .rem (by decide), Result.andThen_ok, binOp, Op.intDiv, ne_eq, not_true_eq_false, if_false, h0, Sem.run_pure, e]
theorem exec_max0 {ρ : Operand → Value} {o : Oper} {w : World} (x y : Operand) (ts : Array TypeId) (ho : o.op = .call { callee := .builtin .max, args := #[x, y], argTypes := ts }) (z : Int) (hx : ρ x = .int .i64 z) (hy : ρ y = .int .i64 0) :
    (execOp ρ o).run P w = .ok (.value (.int .i64 (z.toNat : Int))) w := by
  unfold execOp
  have e : (if (0 : Int) > z then 0 else z) = (z.toNat : Int) := by split <;> omega
  simp only [ho, hx, hy, resolve, invoke, builtin, Builtin.max_, Builtin.max2, Sem.run_bind, Sem.run_pure, Result.andThen_ok, List.map_toArray, List.map_cons, List.map_nil, List.foldlM_cons, List.foldlM_nil, e]
end
end Go.Proofs.Ytpfoeeiacfadfaa
