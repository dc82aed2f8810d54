/-
  Contract of math/bits' Div64, where the divisor's highest bit is set: in numbers; and of package wide's guess.
-/
import Derived.Test.YtpfoeeiacfadfaaV8
namespace Go.Proofs.Ytpfoeeiacfadfaa
open Go.RowKit

set_option maxHeartbeats 1000000 in
theorem div64_big (h l y : Nat) (hy : 9223372036854775808 ≤ y) (hyB : y < 18446744073709551616) (hh : h < y) (hl : l < 18446744073709551616) (h0 : h ≠ 0) (w : World) :
    Calls Try.prog 85 #[.int .u64 (h : Int), .int .u64 (l : Int), .int .u64 (y : Int)] w fun e w' => ∃ r, e = .returned (.tuple #[.int .u64 (((h * 18446744073709551616 + l) / y : Nat) : Int), r]) ∧ w' = w := by
  obtain ⟨y1, hy1⟩ : ∃ y1, y / 4294967296 = y1 := ⟨_, rfl⟩
  obtain ⟨y2, hy2⟩ : ∃ y1, y % 4294967296 = y1 := ⟨_, rfl⟩
  obtain ⟨u1, hu1⟩ : ∃ y1, l / 4294967296 = y1 := ⟨_, rfl⟩
  obtain ⟨u0, hu0⟩ : ∃ y1, l % 4294967296 = y1 := ⟨_, rfl⟩
  obtain ⟨q, hq⟩ : ∃ q, h / y1 = q := ⟨_, rfl⟩
  obtain ⟨r, hr⟩ : ∃ q, h % y1 = q := ⟨_, rfl⟩
  have S1 : Hid (y * 2 ^ 0 % 18446744073709551616 = y) := by show _ = _; omega
  have S2 : Hid (h * 2 ^ 0 % 18446744073709551616 = h) := by show _ = _; omega
  have S3 : Hid (l * 2 ^ 0 % 18446744073709551616 = l) := by show _ = _; omega
  have S4 : Hid (y / 2 ^ 32 = y1) := by show _ = _; rw [← hy1]
  have S5 : Hid (l / 2 ^ 32 = u1) := by show _ = _; rw [← hu1]
  have S6 : Hid (l / 2 ^ 64 = 0) := by show _ = _; exact Nat.div_eq_of_lt hl
  have S7 : Hid (y % 4294967296 = y2) := hy2
  have S8 : Hid (l % 4294967296 = u0) := hu0
  have S9 : Hid (h ||| 0 = h) := by show _ = _; simp
  have S10 : Hid (h / y1 = q) := hq
  have B1 : Hid (y < 18446744073709551616) := hyB
  have B2 : Hid (h < 18446744073709551616) := by show _ < _; omega
  have B3 : Hid (l < 18446744073709551616) := hl
  have C0 : Hid (0 ≤ 64) := by show _ ≤ _; omega
  have C32 : Hid (32 ≤ 64) := by show _ ≤ _; omega
  have C64 : Hid (64 ≤ 64) := by show _ ≤ _; omega
  have B0 : Hid (0 < 18446744073709551616) := Nat.zero_lt_succ _
  have B4 : Hid (y1 ≠ 0) := by show _ ≠ _; omega
  have hu1l : u1 < 4294967296 := by omega
  have hu0l : u0 < 4294967296 := by omega
  obtain ⟨i1, i2, i3, i4⟩ := d_init y h u1 hy hyB hh hu1l
  rw [hy1] at i1 i2 i3 i4
  rw [hq] at i1 i2 i4
  rw [hr] at i3 i4
  obtain ⟨A, hA⟩ : ∃ A, q * y1 = A := ⟨_, rfl⟩
  have S11 : Hid (q * y1 = A) := hA
  have S12 : Hid (r + A = h) := by show _ = _; omega
  have B5 : Hid (A < 18446744073709551616) := by show _ < _; omega
  obtain ⟨Q1, hQ1⟩ : ∃ Q, (h * 4294967296 + u1) / y = Q := ⟨_, rfl⟩
  obtain ⟨R1, hR1⟩ : ∃ Q, (h * 4294967296 + u1) % y = Q := ⟨_, rfl⟩
  have hR1y : R1 < y := by rw [← hR1]; exact Nat.mod_lt _ (by omega)
  obtain ⟨Q0, hQ0⟩ : ∃ Q, (R1 * 4294967296 + u0) / y = Q := ⟨_, rfl⟩
  have hall : Q1 * 4294967296 + Q0 = (h * 18446744073709551616 + l) / y := d_all y h l Q1 R1 Q0 (by omega) (by rw [hu1, hQ1]) (by rw [hu1, hR1]) (by rw [hu0, hQ0])
  have G1 : Hid (∀ q r : Nat, q * y1 + r = h → (4294967296 ≤ q ∨ 4294967296 * r + u1 < q * y2) → Q1 < q) := fun q r e1 e2 => by have := d_great y h u1 hy hyB hh hu1l q r (by rw [hy1]; exact e1) (by rw [hy2]; exact e2); rw [hQ1] at this; exact this
  have G2 : Hid (∀ q r : Nat, q * y1 + r = h → Q1 ≤ q → q * y2 ≤ 4294967296 * r + u1 → q = Q1) := fun q r e1 e2 e3 => by have := d_right y h u1 hy q r (by rw [hy1]; exact e1) (by rw [hQ1]; exact e2) (by rw [hy2]; exact e3); rw [hQ1] at this; exact this
  have G3 : Hid (∀ q r : Nat, q * y1 + r = h → Q1 ≤ q → q ≤ 4294967296 → 4294967296 ≤ r → q = Q1) := fun q r e1 e2 e3 e4 => by have := d_out y h u1 hy q r (by rw [hy1]; exact e1) (by rw [hQ1]; exact e2) e3 e4; rw [hQ1] at this; exact this
  have K1 : Hid (∀ q r : Nat, q * y1 + r = R1 → (4294967296 ≤ q ∨ 4294967296 * r + u0 < q * y2) → Q0 < q) := fun q r e1 e2 => by have := d_great y R1 u0 hy hyB hR1y hu0l q r (by rw [hy1]; exact e1) (by rw [hy2]; exact e2); rw [hQ0] at this; exact this
  have K2 : Hid (∀ q r : Nat, q * y1 + r = R1 → Q0 ≤ q → q * y2 ≤ 4294967296 * r + u0 → q = Q0) := fun q r e1 e2 e3 => by have := d_right y R1 u0 hy q r (by rw [hy1]; exact e1) (by rw [hQ0]; exact e2) (by rw [hy2]; exact e3); rw [hQ0] at this; exact this
  have K3 : Hid (∀ q r : Nat, q * y1 + r = R1 → Q0 ≤ q → q ≤ 4294967296 → 4294967296 ≤ r → q = Q0) := fun q r e1 e2 e3 e4 => by have := d_out y R1 u0 hy q r (by rw [hy1]; exact e1) (by rw [hQ0]; exact e2) e3 e4; rw [hQ0] at this; exact this
  have L1 : Hid (((((h : Int) * 4294967296) % 18446744073709551616 + u1) % 18446744073709551616 - ((Q1 : Int) * y) % 18446744073709551616) % 18446744073709551616 = (R1 : Nat)) := by have := d_left y h u1 Q1 hyB (by omega) hQ1.symm; rw [hR1] at this; exact this
  rw [← hall]
  obtain ⟨Z1, Y1⟩ : ∃ S : Int, Hid (((h : Int) * 4294967296) % 18446744073709551616 = S) := ⟨_, rfl⟩
  obtain ⟨Z2, Y2⟩ : ∃ S : Int, Hid ((Z1 + (u1 : Int)) % 18446744073709551616 = S) := ⟨_, rfl⟩
  obtain ⟨Z3, Y3⟩ : ∃ S : Int, Hid (((Q1 : Int) * y) % 18446744073709551616 = S) := ⟨_, rfl⟩
  have Y4 : Hid ((Z2 - Z3) % 18446744073709551616 = (R1 : Nat)) := by show _ = _; rw [← Y2.out, ← Y1.out, ← Y3.out]; exact L1.out
  obtain ⟨q2, hq2⟩ : ∃ q, R1 / y1 = q := ⟨_, rfl⟩
  obtain ⟨r2, hr2⟩ : ∃ q, R1 % y1 = q := ⟨_, rfl⟩
  obtain ⟨m1, m2, m3, m4⟩ := d_init y R1 u0 hy hyB hR1y hu0l
  rw [hy1] at m1 m2 m3 m4
  rw [hq2] at m1 m2 m4
  rw [hr2] at m3 m4
  obtain ⟨A3, hA3⟩ : ∃ A, q2 * y1 = A := ⟨_, rfl⟩
  have Y5 : Hid (R1 / y1 = q2) := hq2
  have Y5B : Hid (R1 < 18446744073709551616) := by show _ < _; omega
  have Y6 : Hid (q2 * y1 = A3) := hA3
  have Y6B : Hid (A3 < 18446744073709551616) := by show _ < _; omega
  have Y7 : Hid (r2 + A3 = R1) := by show _ = _; omega
  have I2 : Hid (Q0 ≤ q2 ∧ q2 ≤ 4294967297 ∧ r2 < 4294967296 ∧ q2 * y1 + r2 = R1) := ⟨hQ0 ▸ m1, m2, m3, m4⟩
  have hQ1l : Q1 < 4294967296 := by rw [← hQ1]; exact dQ_lt y h u1 hy hyB hh hu1l
  have hQ0l : Q0 < 4294967296 := by rw [← hQ0]; exact dQ_lt y R1 u0 hy hyB hR1y hu0l
  obtain ⟨P1, hP1⟩ : ∃ A, Q1 * 4294967296 = A := ⟨_, rfl⟩
  obtain ⟨P2, hP2⟩ : ∃ A, P1 + Q0 = A := ⟨_, rfl⟩
  have XP1 : Hid (Q1 * 4294967296 = P1) := hP1
  have XB1 : Hid (P1 < 18446744073709551616) := by show _ < _; omega
  have XP2 : Hid (P1 + Q0 = P2) := hP2
  have XB2 : Hid (P2 < 18446744073709551616) := by show _ < _; omega
  have XP : Hid (P2 = Q1 * 4294967296 + Q0) := by show _ = _; omega
  obtain ⟨T1, XT1⟩ : ∃ S : Int, Hid (((R1 : Int) * 4294967296) % 18446744073709551616 = S) := ⟨_, rfl⟩
  obtain ⟨T2, XT2⟩ : ∃ S : Int, Hid ((T1 + (u0 : Int)) % 18446744073709551616 = S) := ⟨_, rfl⟩
  obtain ⟨T3, XT3⟩ : ∃ S : Int, Hid (((Q0 : Int) * y) % 18446744073709551616 = S) := ⟨_, rfl⟩
  obtain ⟨T4, XT4⟩ : ∃ S : Int, Hid ((T2 - T3) % 18446744073709551616 = S) := ⟨_, rfl⟩
  obtain ⟨T5, XT5⟩ : ∃ S : Int, Hid (T4.fdiv (2 ^ (min (0 : Int).toNat IntKind.u64.bits)) = S) := ⟨_, rfl⟩
  have I1 : Hid (Q1 ≤ q ∧ q ≤ 4294967297 ∧ r < 4294967296 ∧ q * y1 + r = h) := ⟨hQ1 ▸ i1, i2, i3, i4⟩
  have hy2l : y2 < 4294967296 := by omega
  have hy1l : y1 < 4294967296 := by omega
  have BB : Hid (y2 < 4294967296 ∧ y1 < 4294967296 ∧ u1 < 4294967296 ∧ u0 < 4294967296) := ⟨hy2l, hy1l, hu1l, hu0l⟩
  -- clear hq2 hr2 m1 m2 m3 m4 hA3 hQ1l hQ0l hP1 hP2 hy2 hu0 hq i1 i2 i3 i4 hy2l hy1l hu1l hu0l hall hQ0 hQ1 hR1 hA hr hu1 hy1 hy hyB hh hl hR1y
  exact div64_walk h l y y1 y2 u1 u0 q r A Q1 R1 Q0 q2 r2 A3 P1 P2 Z1 Z2 Z3 T1 T2 T3 T4 T5 ⟨S1.out, S2.out, S3.out, S4.out, S5.out, S6.out, S7.out, S8.out, S9.out, S10.out, B1.out, B2.out, B3.out, C0.out, C32.out, C64.out, B0.out, B4.out, S11.out, S12.out, B5.out, G1.out, G2.out, G3.out, K1.out, K2.out, K3.out, Y4.out, Y5.out, Y5B.out, Y6.out, Y6B.out, Y7.out, I2.out, XP1.out, XB1.out, XP2.out, XB2.out, XP.out, I1.out, BB.out, Y1.out, Y2.out, Y3.out, XT1.out, XT2.out, XT3.out, XT4.out, XT5.out⟩ (fun w => lz_any y hy hyB w) (by simp; omega) (by omega) (by simp; omega) w
end Go.Proofs.Ytpfoeeiacfadfaa
