/-
  Plain facts on single operations over numbers of 32 bits, each told as the value that it yields; on slices and arrays of them.
-/
import Derived.Test.YtpfoeeiacfadfaaMemZ
import Derived.Test.YtpfoeeiacfadfaaSeq
import Derived.Test.YtpfoeeiacfadfaaSh
import Derived.Laws.BitsAllLaws
namespace Go.Proofs.Ytpfoeeiacfadfaa
open Go.RowKit

section
variable {P : Program} {ρ : Operand → Value} {o : Oper} {w : World}
theorem wrapU32 (n : Int) : IntKind.u32.wrap n = n % 4294967296 := by simp [IntKind.wrap, IntKind.bits, IntKind.signed]
theorem exec_ad (x y : Operand) (T U : TypeId) (ho : o.op = .binOp .add T x y U) (X Y : Nat) (hx : ρ x = .int .u32 (X : Int)) (hy : ρ y = .int .u32 (Y : Int)) :
    (execOp ρ o).run P w = .ok (.value (.int .u32 ((ad X Y : Nat) : Int))) w := by
  unfold execOp
  simp only [ho, hx, hy, Sem.run_bind, run_eqGuard_no .add (by decide), Result.andThen_ok, binOp, Op.intArith, ne_eq, not_true_eq_false, if_false, Sem.run_pure, wrapU32]
  rfl
theorem exec_xo (x y : Operand) (T U : TypeId) (ho : o.op = .binOp .xor T x y U) (X Y : Nat) (hx : ρ x = .int .u32 (X : Int)) (hy : ρ y = .int .u32 (Y : Int)) :
    (execOp ρ o).run P w = .ok (.value (.int .u32 ((xo X Y : Nat) : Int))) w := by
  unfold execOp
  simp only [ho, hx, hy, Sem.run_bind, run_eqGuard_no .xor (by decide), Result.andThen_ok, binOp, Op.intBits, ne_eq, not_true_eq_false, if_false, Sem.run_pure]
  congr 3
  have e : (BitVec.ofInt IntKind.u32.bits (X : Int) ^^^ BitVec.ofInt IntKind.u32.bits (Y : Int)).toNat = (X ^^^ Y) % 4294967296 := by
    show (BitVec.ofInt 32 (X : Int) ^^^ BitVec.ofInt 32 (Y : Int)).toNat = _
    rw [BitVec.toNat_xor, BitVec.ofInt_natCast, BitVec.ofInt_natCast, BitVec.toNat_ofNat, BitVec.toNat_ofNat]
    exact (Nat.xor_mod_two_pow (n := 32)).symm
  rw [e, wrapU32]
  unfold xo
  omega
theorem exec_an (x y : Operand) (T U : TypeId) (ho : o.op = .binOp .and T x y U) (X Y : Nat) (hx : ρ x = .int .u32 (X : Int)) (hy : ρ y = .int .u32 (Y : Int)) :
    (execOp ρ o).run P w = .ok (.value (.int .u32 ((an X Y : Nat) : Int))) w := by
  unfold execOp
  simp only [ho, hx, hy, Sem.run_bind, run_eqGuard_no .and (by decide), Result.andThen_ok, binOp, Op.intBits, ne_eq, not_true_eq_false, if_false, Sem.run_pure]
  congr 3
  have e : (BitVec.ofInt IntKind.u32.bits (X : Int) &&& BitVec.ofInt IntKind.u32.bits (Y : Int)).toNat = (X &&& Y) % 4294967296 := by
    show (BitVec.ofInt 32 (X : Int) &&& BitVec.ofInt 32 (Y : Int)).toNat = _
    rw [BitVec.toNat_and, BitVec.ofInt_natCast, BitVec.ofInt_natCast, BitVec.toNat_ofNat, BitVec.toNat_ofNat]
    exact (Nat.and_mod_two_pow (n := 32)).symm
  rw [e, wrapU32]
  unfold an
  omega
theorem exec_og (x y : Operand) (T U : TypeId) (ho : o.op = .binOp .or T x y U) (X Y : Nat) (hx : ρ x = .int .u32 (X : Int)) (hy : ρ y = .int .u32 (Y : Int)) :
    (execOp ρ o).run P w = .ok (.value (.int .u32 ((og X Y : Nat) : Int))) w := by
  unfold execOp
  simp only [ho, hx, hy, Sem.run_bind, run_eqGuard_no .or (by decide), Result.andThen_ok, binOp, Op.intBits, ne_eq, not_true_eq_false, if_false, Sem.run_pure]
  congr 3
  have e : (BitVec.ofInt IntKind.u32.bits (X : Int) ||| BitVec.ofInt IntKind.u32.bits (Y : Int)).toNat = (X ||| Y) % 4294967296 := by
    show (BitVec.ofInt 32 (X : Int) ||| BitVec.ofInt 32 (Y : Int)).toNat = _
    rw [BitVec.toNat_or, BitVec.ofInt_natCast, BitVec.ofInt_natCast, BitVec.toNat_ofNat, BitVec.toNat_ofNat]
    exact (Nat.or_mod_two_pow (n := 32)).symm
  rw [e, wrapU32]
  unfold og
  omega
theorem exec_lS (x y : Operand) (T U : TypeId) (ho : o.op = .binOp .shl T x y U) (X c : Nat) (k : IntKind) (u : Int) (hu : u = (c : Int)) (hc : c ≤ 32) (hx : ρ x = .int .u32 (X : Int)) (hy : ρ y = .int k u) :
    (execOp ρ o).run P w = .ok (.value (.int .u32 ((lS c X : Nat) : Int))) w := by
  subst hu
  unfold execOp
  simp only [ho, hx, hy, Sem.run_bind, run_eqGuard_no .shl (by decide), Result.andThen_ok, binOp, Op.shift]
  have h1 : ¬ ((c : Int) < 0) := by omega
  have h2 : min (c : Int).toNat IntKind.u32.bits = c := by
    have : IntKind.u32.bits = 32 := rfl
    rw [this]; omega
  rw [if_neg h1, h2]
  simp only [Sem.run_pure, Result.andThen_ok, wrapU32]
  congr 3
theorem exec_rS (x y : Operand) (T U : TypeId) (ho : o.op = .binOp .shr T x y U) (X c : Nat) (k : IntKind) (u : Int) (hu : u = (c : Int)) (hc : c ≤ 32) (hx : ρ x = .int .u32 (X : Int)) (hy : ρ y = .int k u) :
    (execOp ρ o).run P w = .ok (.value (.int .u32 ((rS c X : Nat) : Int))) w := by
  subst hu
  unfold execOp
  simp only [ho, hx, hy, Sem.run_bind, run_eqGuard_no .shr (by decide), Result.andThen_ok, binOp, Op.shift]
  have h1 : ¬ ((c : Int) < 0) := by omega
  have h2 : min (c : Int).toNat IntKind.u32.bits = c := by
    have : IntKind.u32.bits = 32 := rfl
    rw [this]; omega
  rw [if_neg h1, h2]
  simp only [Sem.run_pure, Result.andThen_ok]
  congr 3
  have e : ((2 : Int) ^ c) = ((2 ^ c : Nat) : Int) := by simp [Int.natCast_pow]
  rw [e, Int.fdiv_eq_ediv_of_nonneg _ (Int.natCast_nonneg _)]
  rfl
theorem exec_not (x : Operand) (T : TypeId) (ho : o.op = .unOp .xor T x) (X : Nat) (hx : ρ x = .int .u32 (X : Int)) :
    (execOp ρ o).run P w = .ok (.value (.int .u32 ((xo X 4294967295 : Nat) : Int))) w := by
  unfold execOp
  simp only [ho, hx, Sem.run_bind, Op.unary, Op.intBits, Sem.run_pure, Result.andThen_ok]
  congr 3
  have e : (BitVec.ofInt IntKind.u32.bits (if IntKind.u32.signed = true then -1 else IntKind.u32.max) ^^^ BitVec.ofInt IntKind.u32.bits (X : Int)).toNat = (4294967295 ^^^ X) % 4294967296 := by
    show (BitVec.ofInt 32 ((4294967295 : Nat) : Int) ^^^ BitVec.ofInt 32 (X : Int)).toNat = _
    rw [BitVec.toNat_xor, BitVec.ofInt_natCast, BitVec.ofInt_natCast, BitVec.toNat_ofNat, BitVec.toNat_ofNat]
    exact (Nat.xor_mod_two_pow (n := 32)).symm
  rw [e, wrapU32]
  unfold xo
  rw [Nat.xor_comm]
  omega
theorem exec_conv {S T : TypeId} {j k : IntKind} (hS : P.underlying S = some (.int j)) (hT : P.underlying T = some (.int k)) (x : Operand) (ho : o.op = .convert S T x) (X Z : Int) (hZ : k.wrap X = Z) (hx : ρ x = .int j X) :
    (execOp ρ o).run P w = .ok (.value (.int k Z)) w := by
  subst hZ
  unfold execOp
  simp [ho, hx, convert, Conv.intToInt, run_underlying hS, run_underlying hT]
theorem wrapU8 (X : Nat) : IntKind.u8.wrap (X : Int) = ((UInt8.ofNat X).toNat : Int) := by
  simp [IntKind.wrap, IntKind.bits, IntKind.signed]
theorem wrap8U32 (c : UInt8) : IntKind.u32.wrap ((c.toNat : Nat) : Int) = ((c.toNat : Nat) : Int) := by
  have := c.toNat_lt
  rw [wrapU32]; omega
/-- &s[i] -/
theorem exec_slx {T E : TypeId} (hs : P.underlying T = some (.slice E)) (hz : (P.info? E).map (·.size) = some 1) (x y : Operand) (ho : o.op = .indexAddr T x y) (g off n cap i : Nat) (k : IntKind) (u : Int) (hu : u = (i : Int)) (hi : i < n) (hx : ρ x = .slice (some ⟨g, off, none⟩) n cap) (hy : ρ y = .int k u) :
    (execOp ρ o).run P w = .ok (.value (.pointer (some ⟨g, off + i, none⟩))) w := by
  subst hu
  obtain ⟨j, hj, hs1⟩ := Option.map_eq_some_iff.1 hz
  have h : (Instr.indexAt T (.slice (some ⟨g, off, none⟩) n cap) (.int k i)).run P w = .ok (.pointer (some ⟨g, off + i, none⟩)) w := by
    simp [Instr.indexAt, asIntOf, run_underlying hs, hi, sizeOf, typeInfo, hj, hs1, Addr.add_lit]
  unfold execOp
  simp only [ho, hx, hy, Sem.run_bind, Sem.run_pure, Result.andThen_ok, h]
/-- *p, one cell -/
theorem exec_cell {F : TypeId} {k : IntKind} (hF : P.underlying F = some (.int k)) (x : Operand) (ho : o.op = .load F x) (g i : Nat) (v : Value) (hv : w.cell? ⟨g, i, none⟩ = some v) (hx : ρ x = .pointer (some ⟨g, i, none⟩)) :
    (execOp ρ o).run P w = .ok (.value v) w := by
  unfold execOp
  have h : (Instr.loadAt F (.pointer (some ⟨g, i, none⟩))).run P w = .ok v w := by simp [Instr.loadAt, Instr.sureAddr, loadVar, isAgg, run_underlying hF, hv]
  simp only [ho, hx, Sem.run_bind, Sem.run_pure, Result.andThen_ok, h]
theorem x_addI (x y : Operand) (T U : TypeId) (ho : o.op = .binOp .add T x y U) (X Y Z : Int) (hZ : X + Y = Z) (h1 : -9223372036854775808 ≤ Z) (h2 : Z < 9223372036854775808) (hx : ρ x = .int .i64 X) (hy : ρ y = .int .i64 Y) :
    (execOp ρ o).run P w = .ok (.value (.int .i64 Z)) w := by
  subst hZ
  unfold execOp
  simp only [ho, hx, hy, Sem.run_bind, run_eqGuard_no .add (by decide), Result.andThen_ok, binOp, Op.intArith, ne_eq, not_true_eq_false, if_false, Sem.run_pure]
  rw [wrap_small _ h1 h2]
theorem x_mulI (x y : Operand) (T U : TypeId) (ho : o.op = .binOp .mul T x y U) (X Y Z : Int) (hZ : X * Y = Z) (h1 : -9223372036854775808 ≤ Z) (h2 : Z < 9223372036854775808) (hx : ρ x = .int .i64 X) (hy : ρ y = .int .i64 Y) :
    (execOp ρ o).run P w = .ok (.value (.int .i64 Z)) w := by
  subst hZ
  unfold execOp
  simp only [ho, hx, hy, Sem.run_bind, run_eqGuard_no .mul (by decide), Result.andThen_ok, binOp, Op.intArith, ne_eq, not_true_eq_false, if_false, Sem.run_pure]
  rw [wrap_small _ h1 h2]
theorem x_subU (x y : Operand) (T U : TypeId) (ho : o.op = .binOp .sub T x y U) (X Y Z : Nat) (hZ : Z + Y = X) (h : X < 18446744073709551616) (hx : ρ x = .int .u64 (X : Int)) (hy : ρ y = .int .u64 (Y : Int)) :
    (execOp ρ o).run P w = .ok (.value (.int .u64 (Z : Int))) w := by
  unfold execOp
  have e : (X : Int) - Y = (Z : Int) := by omega
  simp only [ho, hx, hy, Sem.run_bind, run_eqGuard_no .sub (by decide), Result.andThen_ok, binOp, Op.intArith, ne_eq, not_true_eq_false, if_false, Sem.run_pure, e]
  rw [IntKind.wrap_u64, Int.emod_eq_of_lt (by omega) (by omega)]
theorem x_addU (x y : Operand) (T U : TypeId) (ho : o.op = .binOp .add T x y U) (X Y Z : Nat) (hZ : (X + Y) % 18446744073709551616 = Z) (hx : ρ x = .int .u64 (X : Int)) (hy : ρ y = .int .u64 (Y : Int)) :
    (execOp ρ o).run P w = .ok (.value (.int .u64 (Z : Int))) w := by
  subst hZ
  unfold execOp
  simp only [ho, hx, hy, Sem.run_bind, run_eqGuard_no .add (by decide), Result.andThen_ok, binOp, Op.intArith, ne_eq, not_true_eq_false, if_false, Sem.run_pure, IntKind.wrap_u64]
  rfl
theorem x_mulU (x y : Operand) (T U : TypeId) (ho : o.op = .binOp .mul T x y U) (X Y Z : Nat) (hZ : X * Y % 18446744073709551616 = Z) (hx : ρ x = .int .u64 (X : Int)) (hy : ρ y = .int .u64 (Y : Int)) :
    (execOp ρ o).run P w = .ok (.value (.int .u64 (Z : Int))) w := by
  subst hZ
  unfold execOp
  simp only [ho, hx, hy, Sem.run_bind, run_eqGuard_no .mul (by decide), Result.andThen_ok, binOp, Op.intArith, ne_eq, not_true_eq_false, if_false, Sem.run_pure, IntKind.wrap_u64]
  rfl
theorem x_andU (x y : Operand) (T U : TypeId) (ho : o.op = .binOp .and T x y U) (X Y Z : Nat) (hZ : X &&& Y = Z) (h1 : X < 18446744073709551616) (h2 : Y < 18446744073709551616) (hx : ρ x = .int .u64 (X : Int)) (hy : ρ y = .int .u64 (Y : Int)) :
    (execOp ρ o).run P w = .ok (.value (.int .u64 (Z : Int))) w := by
  subst hZ
  unfold execOp
  simp only [ho, hx, hy, Sem.run_bind, run_eqGuard_no .and (by decide), Result.andThen_ok, binOp, Op.intBits, ne_eq, not_true_eq_false, if_false, Sem.run_pure]
  congr 3
  exact bits_and_u64_nat X Y h1 h2
theorem x_negI (x : Operand) (T : TypeId) (ho : o.op = .unOp .neg T x) (X Z : Int) (hZ : 0 - X = Z) (h1 : -9223372036854775808 ≤ Z) (h2 : Z < 9223372036854775808) (hx : ρ x = .int .i64 X) :
    (execOp ρ o).run P w = .ok (.value (.int .i64 Z)) w := by
  subst hZ
  unfold execOp
  simp only [ho, hx, Sem.run_bind, Op.unary, Op.intArith, Sem.run_pure, Result.andThen_ok]
  rw [wrap_small _ h1 h2]
theorem x_lss (x y : Operand) (T U : TypeId) (ho : o.op = .binOp .lss T x y U) (X Y : Int) (b : Bool) (hb : decide (X < Y) = b) (k : IntKind) (hx : ρ x = .int k X) (hy : ρ y = .int k Y) :
    (execOp ρ o).run P w = .ok (.value (.bool b)) w := by
  subst hb
  unfold execOp
  simp only [ho, hx, hy, Sem.run_bind, run_eqGuard_no .lss (by decide), Result.andThen_ok, binOp, Op.intCmp, ne_eq, not_true_eq_false, if_false, Sem.run_pure]
theorem x_gtr (x y : Operand) (T U : TypeId) (ho : o.op = .binOp .gtr T x y U) (X Y : Int) (b : Bool) (hb : decide (X > Y) = b) (k : IntKind) (hx : ρ x = .int k X) (hy : ρ y = .int k Y) :
    (execOp ρ o).run P w = .ok (.value (.bool b)) w := by
  subst hb
  unfold execOp
  simp only [ho, hx, hy, Sem.run_bind, run_eqGuard_no .gtr (by decide), Result.andThen_ok, binOp, Op.intCmp, ne_eq, not_true_eq_false, if_false, Sem.run_pure]
end

/-- The cells of numbers of 32 bits. -/
def c32 (l : List Nat) : List Value := l.map (fun n : Nat => Value.int .u32 (n : Int))
theorem c32_length (l : List Nat) : (c32 l).length = l.length := by simp [c32]
theorem c32_append (l m : List Nat) : c32 (l ++ m) = c32 l ++ c32 m := by simp [c32]
theorem c32_one (l : List Nat) : ∀ u ∈ c32 l, u.oneCell' = true := by
  intro u hu
  simp [c32] at hu
  obtain ⟨c, _, rfl⟩ := hu
  rfl
theorem at32_get {l : List Nat} {i : Nat} (h : i < l.length) : l[i]? = some (at32 l i) := by
  unfold at32; simp [List.getD_eq_getElem?_getD, h]
theorem c32_get {l : List Nat} {i : Nat} (h : i < l.length) : (c32 l)[i]? = some (.int .u32 (at32 l i : Nat)) := by
  simp only [c32, List.getElem?_map, at32_get h, Option.map_some]
theorem c32_get' {l : List Nat} {i : Nat} (junk : List Value) (h : i < l.length) : (c32 l ++ junk)[i]? = some (.int .u32 (at32 l i : Nat)) := by
  rw [List.getElem?_append_left (by rw [c32_length]; exact h), c32_get h]
theorem c32_set (l : List Nat) (i v : Nat) : (c32 l).set i (.int .u32 (v : Int)) = c32 (l.set i v) := by simp [c32, List.map_set]
theorem at8_get {l : List UInt8} {i : Nat} (h : i < l.length) : l[i]? = some (at8 l i) := by
  unfold at8; simp [List.getD_eq_getElem?_getD, h]
theorem at8_eq {l : List UInt8} {i : Nat} (h : i < l.length) : l[i] = at8 l i := by
  have := at8_get h
  rw [List.getElem?_eq_getElem h] at this
  exact Option.some.inj this
/-- A cell of bytes that are read. -/
theorem Rd.cell8 {B : Nat} {w : World} {b off n cap i : Nat} {l : List UInt8} (h : Rd B w (.slice (some ⟨b, off, none⟩) n cap) l) (hi : i < l.length) : w.cell? ⟨b, off + i, none⟩ = some (.int .u8 ((at8 l i).toNat : Int)) := by
  obtain ⟨b', off', cap', e, _, _, hc⟩ := h.at (by omega)
  simp only [Value.slice.injEq, Option.some.injEq, Addr.mk.injEq] at e
  obtain ⟨⟨rfl, rfl, _⟩, _, rfl⟩ := e
  rw [← at8_eq hi]
  exact hc i hi
end Go.Proofs.Ytpfoeeiacfadfaa
