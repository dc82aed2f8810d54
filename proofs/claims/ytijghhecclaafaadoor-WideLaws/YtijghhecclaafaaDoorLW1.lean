/-
  What the law on any order takes: the lowest eight bits.
-/
import Derived.Test.YtijghhecclaafaaDoorLW0
import Derived.Test.YtijghhecclaafaaDoorOrd
namespace Go.Proofs.YtijghhecclaafaaDoor
open Go.RowKit
theorem exec_and255 {P : Program} {ρ : Operand → Value} {o : Oper} {w : World} (x y : Operand) (T U : TypeId) (ho : o.op = .binOp .and T x y U) (X Z : Nat) (hZ : X % 256 = Z) (h1 : X < 18446744073709551616) (hx : ρ x = .int .u64 (X : Int)) (hy : ρ y = .int .u64 255) :
    (execOp ρ o).run P w = .ok (.value (.int .u64 (Z : Int))) w := by
  subst hZ
  unfold execOp
  simp only [ho, hx, hy, Sem.run_bind, run_eqGuard_no .and (by decide), Result.andThen_ok, binOp, Op.intBits, ne_eq, not_true_eq_false, if_false, Sem.run_pure]
  congr 3
  have h := bits_and_u64_nat X 255 h1 (by omega)
  have e : X &&& 255 = X % 256 := Nat.and_two_pow_sub_one_eq_mod X 8
  rw [e] at h
  exact h
end Go.Proofs.YtijghhecclaafaaDoor
