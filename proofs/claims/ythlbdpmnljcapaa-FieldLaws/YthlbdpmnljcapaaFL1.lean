/-
  FieldLaws in numbers: sums and products do not hang on order or brackets; a product with a sum is the sum of the products; what is added is taken away again.
-/
import Derived.Test.YthlbdpmnljcapaaFP2
namespace Go.Proofs.Ythlbdpmnljcapaa.Q
open Go.RowKit

theorem cnd_eq {β : Type} {p : Prop} [Decidable p] (h : p) (x y : Option β) : cnd (decide p) x y = x := cnd_t (decide_eq_true h) x y
theorem laws_s {a b c : Nat} (ha : a < M) (hb : b < M) (hc : c < M) : m13 (wl a, wl b, wl c) = some true := by
  rw [m13_eq]; unfold b13
  simp only [add_s, mul_s, sub_s, neg_s, reduce_s, eq_wl, bnd_s, ha, hb, hc, lt_M, alive_s, wl_zero, M_pos]
  refine Eq.trans (cnd_eq ?_ _ _) ?_
  · rw [Nat.add_comm]
  refine Eq.trans (cnd_eq ?_ _ _) ?_
  · unfold Pm; omega
  refine Eq.trans (cnd_t rfl _ _) ?_
  refine Eq.trans (cnd_eq ?_ _ _) ?_
  · simp only [Nat.add_mod_mod, Nat.mod_add_mod, Nat.mul_mod_mod, Nat.mul_add]
  refine Eq.trans (cnd_eq ?_ _ _) ?_
  · simp only [Nat.mul_mod_mod, Nat.mod_mul_mod, Nat.mul_assoc]
  refine Eq.trans (cnd_eq ?_ _ _) ?_
  · simp only [Nat.add_mod_mod, Nat.mod_add_mod, Nat.add_assoc]
  refine Eq.trans (cnd_eq ?_ _ _) ?_
  · rw [Nat.mul_comm]
  refine congrArg some (decide_eq_true ?_)
  unfold Pm; omega
end Go.Proofs.Ythlbdpmnljcapaa.Q
