/-
  More of package wide, as the reckoner calls it.
-/
import Derived.Test.YtpfoeeiacfadfaaQM
import Derived.Test.YtpfoeeiacfadfaaV5Z
import Derived.Test.YtpfoeeiacfadfaaMemZ
namespace Go.Proofs.Ytpfoeeiacfadfaa.Q
open Go.RowKit

noncomputable def fShl : List UInt64 × Int → Option (List UInt64) := hide fun d => guard (decide (d.2 < 9223372036854775808)) (some (wl (val d.1 * 2 ^ d.2.toNat % M)))
theorem fShl_eq (d : List UInt64 × Int) : fShl d = guard (decide (d.2 < 9223372036854775808)) (some (wl (val d.1 * 2 ^ d.2.toNat % M))) := congrFun (hide_eq _) d
noncomputable def hd80 : Hd := ⟨[.d (.arr 4 (.int .u64)), .d (.int .i64)], [.d (.arr 4 (.int .u64))], fShl⟩
theorem fn80 : FnOk Try.prog 80 hd80 := fn_of (by kernel_rfl) rfl fun F w d y vs hf ha => by
  obtain ⟨v, us, rfl, h1, u, rfl, h2⟩ := ha
  obtain ⟨l1, rfl⟩ := a1w h1
  obtain rfl := a1i h2
  obtain ⟨hg, hf⟩ := guard_some ((fShl_eq _).symm.trans hf)
  obtain rfl := Option.some.inj hf
  exact (shl_any _ (val_lt l1) _ (of_decide_eq_true hg) w).mono fun en w' h => ⟨_, h.1, h.2, r_w _⟩
noncomputable def fTp : List UInt64 × UInt64 × List UInt64 → Option (List UInt64 × UInt64) := hide fun d => some (wl ((val d.1 * d.2.1.toNat + val d.2.2) % M), UInt64.ofNat ((val d.1 * d.2.1.toNat + val d.2.2) / M))
theorem fTp_eq (d : List UInt64 × UInt64 × List UInt64) : fTp d = some (wl ((val d.1 * d.2.1.toNat + val d.2.2) % M), UInt64.ofNat ((val d.1 * d.2.1.toNat + val d.2.2) / M)) := congrFun (hide_eq _) d
noncomputable def hd70 : Hd := ⟨[.d (.arr 4 (.int .u64)), .d (.int .u64), .d (.arr 4 (.int .u64))], [.d (.arr 4 (.int .u64)), .d (.int .u64)], fTp⟩
theorem tp_div {a n p : Nat} (ha : a < M) (hn : n < 18446744073709551616) (hp : p < M) : (a * n + p) / M < 18446744073709551616 := by
  refine Nat.div_lt_of_lt_mul ?_
  have h1 := Nat.mul_le_mul (show a ≤ M - 1 by omega) (show n ≤ 18446744073709551615 by omega)
  have h2 : (M - 1) * 18446744073709551615 + M ≤ M * 18446744073709551616 := by decide
  omega
theorem fn70 : FnOk Try.prog 70 hd70 := fn_of (by kernel_rfl) rfl fun F w d y vs hf ha => by
  obtain ⟨v, us, rfl, h1, u, us', rfl, h2, t, rfl, h3⟩ := ha
  obtain ⟨l1, rfl⟩ := a1w h1
  obtain rfl := a1i h2
  obtain ⟨l3, rfl⟩ := a1w h3
  obtain rfl := Option.some.inj ((fTp_eq _).symm.trans hf)
  exact (timesPlus_any _ _ _ (val_lt l1) (ut d.2.1) (val_lt l3) w).mono fun en w' h => ⟨_, h.1, h.2, _, rfl, r_w _, r_u (tp_div (val_lt l1) (ut d.2.1) (val_lt l3)), trivial⟩
noncomputable def fGs : UInt64 × UInt64 × UInt64 → Option UInt64 := hide fun d => guard (decide (9223372036854775808 ≤ d.2.2.toNat)) (some (UInt64.ofNat (gsN d.1.toNat d.2.1.toNat d.2.2.toNat)))
theorem fGs_eq (d : UInt64 × UInt64 × UInt64) : fGs d = guard (decide (9223372036854775808 ≤ d.2.2.toNat)) (some (UInt64.ofNat (gsN d.1.toNat d.2.1.toNat d.2.2.toNat))) := congrFun (hide_eq _) d
noncomputable def hd84 : Hd := ⟨[.d (.int .u64), .d (.int .u64), .d (.int .u64)], [.d (.int .u64)], fGs⟩
theorem fn84 : FnOk Try.prog 84 hd84 := fn_of (by kernel_rfl) rfl fun F w d y vs hf ha => by
  obtain ⟨v, us, rfl, h1, u, us', rfl, h2, t, rfl, h3⟩ := ha
  obtain rfl := a1i h1
  obtain rfl := a1i h2
  obtain rfl := a1i h3
  obtain ⟨hg, hf⟩ := guard_some ((fGs_eq _).symm.trans hf)
  obtain rfl := Option.some.inj hf
  have hd := of_decide_eq_true hg
  exact (guess_any _ _ _ hd (ut d.2.2) (ut d.2.1) w).mono fun en w' h => ⟨_, h.1, h.2, r_u (gs_lt _ _ _ hd (ut d.2.1))⟩
end Go.Proofs.Ytpfoeeiacfadfaa.Q
