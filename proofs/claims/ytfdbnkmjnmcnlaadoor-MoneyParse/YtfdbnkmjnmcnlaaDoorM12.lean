/-
  What the laws' walks take: arguments, and contracts at named results.
-/
import Derived.Test.YtfdbnkmjnmcnlaaDoorM11
namespace Go.Proofs.YtfdbnkmjnmcnlaaDoor
open Go.RowKit

theorem u64_arg {a : Int} (h : (Lit.int .u64 a).wf = true) : ∃ n : Nat, a = (n : Int) ∧ n < 18446744073709551616 := by
  have e1 : IntKind.u64.min = 0 := rfl
  have e2 : IntKind.u64.max = 18446744073709551615 := rfl
  simp only [Lit.wf, e1, e2, Bool.and_eq_true, decide_eq_true_eq] at h
  exact ⟨a.toNat, by omega, by omega⟩
theorem i64_arg {a : Int} (h : (Lit.int .i64 a).wf = true) : a < 0 ∨ ∃ n : Nat, a = (n : Int) ∧ n ≤ 9223372036854775807 := by
  have e1 : IntKind.i64.min = -9223372036854775808 := rfl
  have e2 : IntKind.i64.max = 9223372036854775807 := rfl
  simp only [Lit.wf, e1, e2, Bool.and_eq_true, decide_eq_true_eq] at h
  by_cases h0 : a < 0
  · exact .inl h0
  · exact .inr ⟨a.toNat, by omega, by omega⟩
theorem rprint_r (v : Nat) (hv : v < 18446744073709551616) (w : World) (S : ByteArray) (h : S = ⟨(printL v).toArray⟩) :
    Calls Tryd.prog 15 #[.int .u64 (v : Int)] w fun e w' => e = .returned (.string S) ∧ Below w.heap.size w w' := by
  subst h; exact rprint_spec v hv w
theorem rparse_r (w : World) (S : ByteArray) (hS : S.size ≤ 900000) (v : Nat) (e : Int) (h1 : parseV (MM + 1) (bl S) = v) (h2 : parseE (MM + 1) (bl S) = e) :
    Calls Tryd.prog 17 #[.string S] w fun x w' => x = .returned (.tuple #[.int .u64 (v : Nat), .int .i64 e]) ∧ Below w.heap.size w w' := by
  subst h1 h2; exact rparse_any w S hS
theorem rsum_r (w : World) (v : Value) (l : List Nat) (h : Rw w v l) (hl : l.length ≤ 1000000) (n : Nat) (e : Int) (h1 : sumV l = n) (h2 : chk l.sum = e) :
    Calls Tryd.prog 11 #[v] w fun x w' => x = .returned (.tuple #[.int .u64 (n : Int), .int .i64 e]) ∧ w' = w := by
  subst h1 h2; exact rsum_any w v l h hl
theorem check_r (n : Nat) (w : World) (e : Int) (h : chk n = e) : Calls Tryd.prog 12 #[.int .u64 (n : Int)] w fun x w' => x = .returned (.int .i64 e) ∧ w' = w := by
  subst h; exact check_any n w
theorem rcheck_r (n : Nat) (w : World) (e : Int) (h : chk n = e) : Calls Tryd.prog 13 #[.int .u64 (n : Int)] w fun x w' => x = .returned (.int .i64 e) ∧ w' = w := by
  subst h; exact rcheck_any n w
theorem fee_r (w : World) (n r : Nat) (hn : n ≤ 9223372036854775807) (hr : r < 18446744073709551616) (v : Nat) (e : Int) (h1 : feeV n r = v) (h2 : feeE n r = e) :
    Calls Tryd.prog 18 #[.int .i64 (n : Int), .int .u64 (r : Int)] w fun x w' => x = .returned (.tuple #[.int .u64 (v : Nat), .int .i64 e]) ∧ w' = w := by
  subst h1 h2; exact fee_pos w n r hn hr
theorem rfee_r (w : World) (n r : Nat) (hn : n ≤ 9223372036854775807) (hr : r < 18446744073709551616) (v : Nat) (e : Int) (h1 : feeV n r = v) (h2 : feeE n r = e) :
    Calls Tryd.prog 19 #[.int .i64 (n : Int), .int .u64 (r : Int)] w fun x w' => x = .returned (.tuple #[.int .u64 (v : Nat), .int .i64 e]) ∧ w' = w := by
  subst h1 h2; exact rfee_pos w n r hn hr
end Go.Proofs.YtfdbnkmjnmcnlaaDoor
