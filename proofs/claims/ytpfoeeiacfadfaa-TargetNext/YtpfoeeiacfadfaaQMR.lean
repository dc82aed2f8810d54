/-
  The document's side of layer 6, as the reckoner calls it.
-/
import Derived.Test.YtpfoeeiacfadfaaQFH
import Derived.Test.YtpfoeeiacfadfaaDgZ
namespace Go.Proofs.Ytpfoeeiacfadfaa.Q
open Go.RowKit

noncomputable def fRCmp : List UInt64 × List UInt64 → Option (Int) := hide fun d => some (cmpN (val d.1) (val d.2))
theorem fRCmp_eq (d : List UInt64 × List UInt64) : fRCmp d = some (cmpN (val d.1) (val d.2)) := congrFun (hide_eq _) d
noncomputable def hd57 : Hd := ⟨[.d (.arr 4 (.int .u64)), .d (.arr 4 (.int .u64))], [.d (.int .i64)], fRCmp⟩
theorem fn57 : FnOk Try.prog 57 hd57 := fn_of (by kernel_rfl) rfl fun F w d y vs hf ha => by
  obtain ⟨v, us, rfl, h0, u, rfl, h1⟩ := ha
  obtain ⟨l0, rfl⟩ := a1w h0
  obtain ⟨l1, rfl⟩ := a1w h1
  obtain rfl := Option.some.inj ((fRCmp_eq _).symm.trans hf)
  exact (rcmp_any _ _ (val_lt l0) (val_lt l1) w).mono fun en w' h => ⟨_, h.1, h.2, r_i (k := .i64) _⟩
noncomputable def fRLen : List UInt64 → Option (Int) := hide fun d => some ((blen (val d) : Nat) : Int)
theorem fRLen_eq (d : List UInt64) : fRLen d = some ((blen (val d) : Nat) : Int) := congrFun (hide_eq _) d
noncomputable def hd60 : Hd := ⟨[.d (.arr 4 (.int .u64))], [.d (.int .i64)], fRLen⟩
theorem fn60 : FnOk Try.prog 60 hd60 := fn_of (by kernel_rfl) rfl fun F w d y vs hf ha => by
  obtain ⟨v, rfl, h0⟩ := ha
  obtain ⟨l0, rfl⟩ := a1w h0
  obtain rfl := Option.some.inj ((fRLen_eq _).symm.trans hf)
  exact (rlen_any _ (val_lt l0) w).mono fun en w' h => ⟨_, h.1, h.2, r_i (k := .i64) _⟩
noncomputable def fRAdd : List UInt64 × List UInt64 → Option (List UInt64 × UInt64) := hide fun d => some (wl ((val d.1 + val d.2) % M), UInt64.ofNat ((val d.1 + val d.2) / M))
theorem fRAdd_eq (d : List UInt64 × List UInt64) : fRAdd d = some (wl ((val d.1 + val d.2) % M), UInt64.ofNat ((val d.1 + val d.2) / M)) := congrFun (hide_eq _) d
noncomputable def hd64 : Hd := ⟨[.d (.arr 4 (.int .u64)), .d (.arr 4 (.int .u64))], [.d (.arr 4 (.int .u64)), .d (.int .u64)], fRAdd⟩
theorem fn64 : FnOk Try.prog 64 hd64 := fn_of (by kernel_rfl) rfl fun F w d y vs hf ha => by
  obtain ⟨v, us, rfl, h0, u, rfl, h1⟩ := ha
  obtain ⟨l0, rfl⟩ := a1w h0
  obtain ⟨l1, rfl⟩ := a1w h1
  obtain rfl := Option.some.inj ((fRAdd_eq _).symm.trans hf)
  exact (radd_any _ _ (val_lt l0) (val_lt l1) w).mono fun en w' h => ⟨_, h.1, h.2, _, rfl, r_w _, r_u (by have := val_lt l0; have := val_lt l1; unfold M at *; omega), trivial⟩
noncomputable def fRSub : List UInt64 × List UInt64 → Option (List UInt64 × UInt64) := hide fun d => some (wl ((val d.1 + M - val d.2) % M), UInt64.ofNat (if val d.1 < val d.2 then 1 else 0))
theorem fRSub_eq (d : List UInt64 × List UInt64) : fRSub d = some (wl ((val d.1 + M - val d.2) % M), UInt64.ofNat (if val d.1 < val d.2 then 1 else 0)) := congrFun (hide_eq _) d
noncomputable def hd76 : Hd := ⟨[.d (.arr 4 (.int .u64)), .d (.arr 4 (.int .u64))], [.d (.arr 4 (.int .u64)), .d (.int .u64)], fRSub⟩
theorem fn76 : FnOk Try.prog 76 hd76 := fn_of (by kernel_rfl) rfl fun F w d y vs hf ha => by
  obtain ⟨v, us, rfl, h0, u, rfl, h1⟩ := ha
  obtain ⟨l0, rfl⟩ := a1w h0
  obtain ⟨l1, rfl⟩ := a1w h1
  obtain rfl := Option.some.inj ((fRSub_eq _).symm.trans hf)
  exact (rsub_any _ _ (val_lt l0) (val_lt l1) w).mono fun en w' h => ⟨_, h.1, h.2, _, rfl, r_w _, r_u (by split <;> decide), trivial⟩
noncomputable def fRMul : List UInt64 × List UInt64 → Option (List UInt64 × List UInt64) := hide fun d => some (wl (val d.1 * val d.2 % M), wl (val d.1 * val d.2 / M))
theorem fRMul_eq (d : List UInt64 × List UInt64) : fRMul d = some (wl (val d.1 * val d.2 % M), wl (val d.1 * val d.2 / M)) := congrFun (hide_eq _) d
noncomputable def hd51 : Hd := ⟨[.d (.arr 4 (.int .u64)), .d (.arr 4 (.int .u64))], [.d (.arr 4 (.int .u64)), .d (.arr 4 (.int .u64))], fRMul⟩
theorem fn51 : FnOk Try.prog 51 hd51 := fn_of (by kernel_rfl) rfl fun F w d y vs hf ha => by
  obtain ⟨v, us, rfl, h0, u, rfl, h1⟩ := ha
  obtain ⟨l0, rfl⟩ := a1w h0
  obtain ⟨l1, rfl⟩ := a1w h1
  obtain rfl := Option.some.inj ((fRMul_eq _).symm.trans hf)
  exact (rmul_any _ _ (val_lt l0) (val_lt l1) w).mono fun en w' h => ⟨_, h.1, h.2, _, rfl, r_w _, r_w _, trivial⟩
end Go.Proofs.Ytpfoeeiacfadfaa.Q
