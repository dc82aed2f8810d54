/-
  Package wide and the machine's words, as the reckoner calls them.
-/
import Derived.Test.YtpfoeeiacfadfaaQL
import Derived.Test.YtpfoeeiacfadfaaV2Z
import Derived.Test.YtpfoeeiacfadfaaV5Z
namespace Go.Proofs.Ytpfoeeiacfadfaa.Q
open Go.RowKit

noncomputable def fFrom : UInt64 → Option (List UInt64) := hide fun d => some (wl d.toNat)
theorem fFrom_eq (d : UInt64) : fFrom d = some (wl d.toNat) := congrFun (hide_eq _) d
noncomputable def hd49 : Hd := ⟨[.d (.int .u64)], [.d (.arr 4 (.int .u64))], fFrom⟩
theorem fn49 : FnOk Try.prog 49 hd49 := fn_of (by kernel_rfl) rfl fun F w d y vs hf ha => by
  obtain ⟨v, rfl, ha⟩ := ha
  obtain rfl := a1i ha
  obtain rfl := Option.some.inj ((fFrom_eq _).symm.trans hf)
  exact (from_any (UInt64.toNat d) (ut d) w).mono fun en w' h => ⟨_, h.1, h.2, r_w _⟩
noncomputable def fAdd : List UInt64 × List UInt64 → Option (List UInt64 × UInt64) := hide fun d => some (wl ((val d.1 + val d.2) % M), UInt64.ofNat ((val d.1 + val d.2) / M))
theorem fAdd_eq (d : List UInt64 × List UInt64) : fAdd d = some (wl ((val d.1 + val d.2) % M), UInt64.ofNat ((val d.1 + val d.2) / M)) := congrFun (hide_eq _) d
noncomputable def hd45 : Hd := ⟨[.d (.arr 4 (.int .u64)), .d (.arr 4 (.int .u64))], [.d (.arr 4 (.int .u64)), .d (.int .u64)], fAdd⟩
theorem fn45 : FnOk Try.prog 45 hd45 := fn_of (by kernel_rfl) rfl fun F w d y vs hf ha => by
  obtain ⟨v, us, rfl, h1, u, rfl, h2⟩ := ha
  obtain ⟨l1, rfl⟩ := a1w h1
  obtain ⟨l2, rfl⟩ := a1w h2
  obtain rfl := Option.some.inj ((fAdd_eq _).symm.trans hf)
  have b1 := val_lt l1
  have b2 := val_lt l2
  refine (add_any _ _ b1 b2 w).mono fun en w' h => ⟨_, h.1, h.2, _, rfl, r_w _, r_u ?_, trivial⟩
  unfold M at *; omega
noncomputable def fSub : List UInt64 × List UInt64 → Option (List UInt64 × UInt64) := hide fun d => some (wl ((val d.1 + M - val d.2) % M), UInt64.ofNat (if val d.1 < val d.2 then 1 else 0))
theorem fSub_eq (d : List UInt64 × List UInt64) : fSub d = some (wl ((val d.1 + M - val d.2) % M), UInt64.ofNat (if val d.1 < val d.2 then 1 else 0)) := congrFun (hide_eq _) d
noncomputable def hd43 : Hd := ⟨[.d (.arr 4 (.int .u64)), .d (.arr 4 (.int .u64))], [.d (.arr 4 (.int .u64)), .d (.int .u64)], fSub⟩
theorem fn43 : FnOk Try.prog 43 hd43 := fn_of (by kernel_rfl) rfl fun F w d y vs hf ha => by
  obtain ⟨v, us, rfl, h1, u, rfl, h2⟩ := ha
  obtain ⟨l1, rfl⟩ := a1w h1
  obtain ⟨l2, rfl⟩ := a1w h2
  obtain rfl := Option.some.inj ((fSub_eq _).symm.trans hf)
  have b1 := val_lt l1
  have b2 := val_lt l2
  refine (sub_any _ _ b1 b2 w).mono fun en w' h => ⟨_, h.1, h.2, _, rfl, r_w _, r_u ?_, trivial⟩
  split <;> decide
noncomputable def fCmp : List UInt64 × List UInt64 → Option Int := hide fun d => some (cmpN (val d.1) (val d.2))
theorem fCmp_eq (d : List UInt64 × List UInt64) : fCmp d = some (cmpN (val d.1) (val d.2)) := congrFun (hide_eq _) d
noncomputable def hd31 : Hd := ⟨[.d (.arr 4 (.int .u64)), .d (.arr 4 (.int .u64))], [.d (.int .i64)], fCmp⟩
theorem fn31 : FnOk Try.prog 31 hd31 := fn_of (by kernel_rfl) rfl fun F w d y vs hf ha => by
  obtain ⟨v, us, rfl, h1, u, rfl, h2⟩ := ha
  obtain ⟨l1, rfl⟩ := a1w h1
  obtain ⟨l2, rfl⟩ := a1w h2
  obtain rfl := Option.some.inj ((fCmp_eq _).symm.trans hf)
  exact (cmp_any _ _ (val_lt l1) (val_lt l2) w).mono fun en w' h => ⟨_, h.1, h.2, r_i (k := .i64) _⟩
noncomputable def fMul : List UInt64 × List UInt64 → Option (List UInt64 × List UInt64) := hide fun d => some (wl (val d.1 * val d.2 % M), wl (val d.1 * val d.2 / M))
theorem fMul_eq (d : List UInt64 × List UInt64) : fMul d = some (wl (val d.1 * val d.2 % M), wl (val d.1 * val d.2 / M)) := congrFun (hide_eq _) d
noncomputable def hd46 : Hd := ⟨[.d (.arr 4 (.int .u64)), .d (.arr 4 (.int .u64))], [.d (.arr 4 (.int .u64)), .d (.arr 4 (.int .u64))], fMul⟩
theorem fn46 : FnOk Try.prog 46 hd46 := fn_of (by kernel_rfl) rfl fun F w d y vs hf ha => by
  obtain ⟨v, us, rfl, h1, u, rfl, h2⟩ := ha
  obtain ⟨l1, rfl⟩ := a1w h1
  obtain ⟨l2, rfl⟩ := a1w h2
  obtain rfl := Option.some.inj ((fMul_eq _).symm.trans hf)
  exact (mul_any _ _ (val_lt l1) (val_lt l2) w).mono fun en w' h => ⟨_, h.1, h.2, _, rfl, r_w _, r_w _, trivial⟩
noncomputable def fLen : List UInt64 → Option Int := hide fun d => some ((blen (val d) : Nat) : Int)
theorem fLen_eq (d : List UInt64) : fLen d = some ((blen (val d) : Nat) : Int) := congrFun (hide_eq _) d
noncomputable def hd44 : Hd := ⟨[.d (.arr 4 (.int .u64))], [.d (.int .i64)], fLen⟩
theorem fn44 : FnOk Try.prog 44 hd44 := fn_of (by kernel_rfl) rfl fun F w d y vs hf ha => by
  obtain ⟨v, rfl, ha⟩ := ha
  obtain ⟨l1, rfl⟩ := a1w ha
  obtain rfl := Option.some.inj ((fLen_eq _).symm.trans hf)
  exact (len_any _ (val_lt l1) w).mono fun en w' h => ⟨_, h.1, h.2, r_i (k := .i64) _⟩
noncomputable def fShr : List UInt64 × Int → Option (List UInt64) := hide fun d => guard (decide (d.2 < 9223372036854775808)) (some (wl (val d.1 / 2 ^ d.2.toNat)))
theorem fShr_eq (d : List UInt64 × Int) : fShr d = guard (decide (d.2 < 9223372036854775808)) (some (wl (val d.1 / 2 ^ d.2.toNat))) := congrFun (hide_eq _) d
noncomputable def hd79 : Hd := ⟨[.d (.arr 4 (.int .u64)), .d (.int .i64)], [.d (.arr 4 (.int .u64))], fShr⟩
theorem fn79 : FnOk Try.prog 79 hd79 := fn_of (by kernel_rfl) rfl fun F w d y vs hf ha => by
  obtain ⟨v, us, rfl, h1, u, rfl, h2⟩ := ha
  obtain ⟨l1, rfl⟩ := a1w h1
  obtain rfl := a1i h2
  obtain ⟨hg, hf⟩ := guard_some ((fShr_eq _).symm.trans hf)
  obtain rfl := Option.some.inj hf
  exact (shr_any _ (val_lt l1) _ (of_decide_eq_true hg) w).mono fun en w' h => ⟨_, h.1, h.2, r_w _⟩
noncomputable def fMul64 : UInt64 × UInt64 → Option (UInt64 × UInt64) := hide fun d => some (UInt64.ofNat (d.1.toNat * d.2.toNat / 18446744073709551616), UInt64.ofNat (d.1.toNat * d.2.toNat % 18446744073709551616))
noncomputable def hd82 : Hd := ⟨[.d (.int .u64), .d (.int .u64)], [.d (.int .u64), .d (.int .u64)], fMul64⟩
noncomputable def fAdd64 : UInt64 × UInt64 × UInt64 → Option (UInt64 × UInt64) := hide fun d => guard (Nat.ble d.2.2.toNat 1) (some (UInt64.ofNat ((d.1.toNat + d.2.1.toNat + d.2.2.toNat) % 18446744073709551616), UInt64.ofNat ((d.1.toNat + d.2.1.toNat + d.2.2.toNat) / 18446744073709551616)))
noncomputable def hd69 : Hd := ⟨[.d (.int .u64), .d (.int .u64), .d (.int .u64)], [.d (.int .u64), .d (.int .u64)], fAdd64⟩
end Go.Proofs.Ytpfoeeiacfadfaa.Q
