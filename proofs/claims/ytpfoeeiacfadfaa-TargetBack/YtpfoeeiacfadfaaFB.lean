/-
  Bytes as numbers, the highest first: what both Read tell.
-/
import Derived.Test.YtpfoeeiacfadfaaQS
import Derived.Test.YtpfoeeiacfadfaaFZ
namespace Go.Proofs.Ytpfoeeiacfadfaa.Q
open Go.RowKit

/-- The number of bytes, the highest first. -/
def be : List UInt8 → Nat
  | [] => 0
  | c :: l => c.toNat * 256 ^ l.length + be l
theorem be_app : ∀ l m : List UInt8, be (l ++ m) = be l * 256 ^ m.length + be m
  | [], m => by simp [be]
  | c :: l, m => by
    show c.toNat * 256 ^ (l ++ m).length + be (l ++ m) = (c.toNat * 256 ^ l.length + be l) * 256 ^ m.length + be m
    rw [be_app l m, List.length_append, Nat.pow_add, Nat.add_mul, Nat.mul_assoc]
    omega
theorem be_one (c : UInt8) : be [c] = c.toNat := by simp [be]
theorem be_lt : ∀ l : List UInt8, be l < 256 ^ l.length
  | [] => by decide
  | c :: l => by
    show c.toNat * 256 ^ l.length + be l < 256 ^ (l.length + 1)
    have h1 := be_lt l
    have h2 := c.toNat_lt
    have h3 : (c.toNat + 1) * 256 ^ l.length ≤ 256 * 256 ^ l.length := Nat.mul_le_mul_right _ (by omega)
    rw [Nat.pow_succ, Nat.mul_comm _ 256]
    rw [Nat.add_mul, Nat.one_mul] at h3
    omega
theorem be_snoc (l : List UInt8) (c : UInt8) : be (l ++ [c]) = be l * 256 + c.toNat := by rw [be_app, be_one]; rfl
theorem u8_64 (c : UInt8) : c.toUInt64.toNat = c.toNat := by
  have := c.toNat_lt
  simp
/-- One byte more, behind. -/
theorem mul_b {x : UInt64} {l : List UInt8} (hx : x.toNat = be l) (hl : l.length ≤ 7) (c : UInt8) : (x * 256 + c.toUInt64).toNat = be (l ++ [c]) := by
  have h1 := be_lt l
  have h2 : 256 ^ l.length ≤ 256 ^ 7 := Nat.pow_le_pow_right (by decide) hl
  have h3 : (256 : Nat) ^ 7 = 72057594037927936 := by decide
  have h4 := c.toNat_lt
  rw [be_snoc, UInt64.toNat_add, UInt64.toNat_mul, hx, u8_64, show (256 : UInt64).toNat = 256 from rfl]
  omega
/-- One byte more, ahead. -/
theorem or_b {x : UInt64} {l : List UInt8} (hx : x.toNat = be l) (k : Nat) (hl : l.length = k) (hk : k ≤ 7) (c : UInt8) : (orK .u64 x (shlK .u64 c.toUInt64 (8 * k)) : UInt64).toNat = be (c :: l) := by
  have h1 := be_lt l
  have h4 := c.toNat_lt
  rw [hl] at h1
  have e : (256 : Nat) ^ k = 2 ^ (8 * k) := by rw [Nat.pow_mul]
  have h5 : c.toNat * 2 ^ (8 * k) < 18446744073709551616 := by
    have a1 : c.toNat * 2 ^ (8 * k) ≤ 255 * 2 ^ (8 * 7) := Nat.mul_le_mul (by omega) (Nat.pow_le_pow_right (by decide) (by omega))
    have a2 : 255 * 2 ^ (8 * 7) < 18446744073709551616 := by decide
    omega
  have e2 : (shlK .u64 c.toUInt64 (8 * k) : UInt64).toNat = c.toNat * 2 ^ (8 * k) := by
    show (UInt64.ofNat (c.toUInt64.toNat * 2 ^ min (8 * k) 64)).toNat = _
    rw [show min (8 * k) 64 = 8 * k by omega, u8_64, un _ h5]
  refine (congrArg UInt64.toNat (or64 _ _)).trans ?_
  show ((show UInt64 from x) ||| (show UInt64 from shlK .u64 c.toUInt64 (8 * k))).toNat = _
  rw [UInt64.toNat_or]
  refine (congr (congrArg (fun p q : Nat => p ||| q) hx) e2).trans ?_
  rw [e] at h1
  have h := Nat.two_pow_add_eq_or_of_lt (i := 8 * k) (b := be l) h1 c.toNat
  show be l ||| c.toNat * 2 ^ (8 * k) = c.toNat * 256 ^ l.length + be l
  rw [hl, e, Nat.or_comm, Nat.mul_comm, ← h]
theorem four_be {a b c d : List UInt8} {wa wb wc wd : UInt64} (_ha : a.length = 8) (hb : b.length = 8) (hc : c.length = 8) (hd : d.length = 8) (ea : wa.toNat = be a) (eb : wb.toNat = be b) (ec : wc.toNat = be c) (ed : wd.toNat = be d) : [wd, wc, wb, wa] = wl (be (a ++ b ++ c ++ d)) := by
  rw [wl4, ea, eb, ec, ed, be_app, be_app, be_app, hb, hc, hd, show (256 : Nat) ^ 8 = 18446744073709551616 by decide]
  congr 1
  omega
theorem be_M (l : List UInt8) (h : l.length = 32) : be l < M := by
  have h1 := be_lt l
  rw [h] at h1
  exact Nat.lt_of_lt_of_le h1 (by decide)
theorem len8 {l : List UInt8} (h : l.length = 8) : ∃ a b c d e f g i, l = [a, b, c, d, e, f, g, i] := by
  match l, h with
  | [a, b, c, d, e, f, g, i], _ => exact ⟨a, b, c, d, e, f, g, i, rfl⟩
theorem parts8 {l : List UInt8} (h : l.length = 32) : ∃ a b c d : List UInt8, a.length = 8 ∧ b.length = 8 ∧ c.length = 8 ∧ d.length = 8 ∧ l = a ++ b ++ c ++ d := by
  refine ⟨l.take 8, (l.drop 8).take 8, (l.drop 16).take 8, l.drop 24, by simp; omega, by simp; omega, by simp; omega, by simp; omega, ?_⟩
  have e1 : l = l.take 8 ++ l.drop 8 := (List.take_append_drop 8 l).symm
  have e2 : l.drop 8 = (l.drop 8).take 8 ++ l.drop 16 := by
    have := (List.take_append_drop 8 (l.drop 8)).symm
    rwa [List.drop_drop] at this
  have e3 : l.drop 16 = (l.drop 16).take 8 ++ l.drop 24 := by
    have := (List.take_append_drop 8 (l.drop 16)).symm
    rwa [List.drop_drop] at this
  rw [List.append_assoc, List.append_assoc, ← e3, ← e2, ← e1]
/-- Eight bytes, one behind the other. -/
def mw (x : UInt64) : List UInt8 → UInt64
  | [] => x
  | c :: l => mw (x * 256 + c.toUInt64) l
theorem mw_be : ∀ (l p : List UInt8) (x : UInt64), x.toNat = be p → (p ++ l).length ≤ 8 → (mw x l).toNat = be (p ++ l)
  | [], p, x, hx, _ => by rw [List.append_nil]; exact hx
  | c :: l, p, x, hx, hl => by
    have e : p ++ c :: l = (p ++ [c]) ++ l := by simp
    rw [e] at hl ⊢
    exact mw_be l (p ++ [c]) _ (mul_b hx (by simp at hl; omega) c) hl
/-- Eight bytes, the last one first. -/
noncomputable def ow (x : UInt64) (k : Nat) : List UInt8 → UInt64
  | [] => x
  | c :: l => ow (orK .u64 x (shlK .u64 c.toUInt64 (8 * k))) (k + 1) l
theorem ow_be : ∀ (l p : List UInt8) (x : UInt64) (k : Nat), x.toNat = be p → p.length = k → k + l.length ≤ 8 → (ow x k l).toNat = be (l.reverse ++ p)
  | [], p, x, k, hx, _, _ => hx
  | c :: l, p, x, k, hx, hp, hl => by
    rw [List.reverse_cons, List.append_assoc]
    exact ow_be l (c :: p) _ (k + 1) (or_b hx k hp (by simp at hl; omega) c) (by simp [hp]) (by simp at hl; omega)
theorem read_s {b : List UInt8} (hb : b.length = 32) : m55 b = some (wl (be b)) := by
  refine (m55_eq _).trans ?_
  unfold b55
  obtain ⟨m, hm⟩ := fuel_ge 33 (by decide)
  obtain ⟨la, lb, lc, ld, ha, hb', hc, hd, rfl⟩ := parts8 hb
  obtain ⟨a0, a1, a2, a3, a4, a5, a6, a7, rfl⟩ := len8 ha
  obtain ⟨b0, b1, b2, b3, b4, b5, b6, b7, rfl⟩ := len8 hb'
  obtain ⟨c0, c1, c2, c3, c4, c5, c6, c7, rfl⟩ := len8 hc
  obtain ⟨d0, d1, d2, d3, d4, d5, d6, d7, rfl⟩ := len8 hd
  have hl : ∀ z, l55_0 ((0 : Int), [a0, a1, a2, a3, a4, a5, a6, a7] ++ [b0, b1, b2, b3, b4, b5, b6, b7] ++ [c0, c1, c2, c3, c4, c5, c6, c7] ++ [d0, d1, d2, d3, d4, d5, d6, d7], z, List.replicate 4 (0 : UInt64)) =
      some (.x (z, [ow 0 0 [d7, d6, d5, d4, d3, d2, d1, d0], ow 0 0 [c7, c6, c5, c4, c3, c2, c1, c0], ow 0 0 [b7, b6, b5, b4, b3, b2, b1, b0], ow 0 0 [a7, a6, a5, a4, a3, a2, a1, a0]])) := fun z => by
    unfold l55_0
    rw [hm]
    kernel_rfl
  refine bnd_ex' (hl _) ?_
  refine congrArg some (four_be ha hb' hc hd ?_ ?_ ?_ ?_)
  · exact ow_be [a7, a6, a5, a4, a3, a2, a1, a0] [] 0 0 rfl rfl (Nat.le_of_ble_eq_true rfl)
  · exact ow_be [b7, b6, b5, b4, b3, b2, b1, b0] [] 0 0 rfl rfl (Nat.le_of_ble_eq_true rfl)
  · exact ow_be [c7, c6, c5, c4, c3, c2, c1, c0] [] 0 0 rfl rfl (Nat.le_of_ble_eq_true rfl)
  · exact ow_be [d7, d6, d5, d4, d3, d2, d1, d0] [] 0 0 rfl rfl (Nat.le_of_ble_eq_true rfl)
theorem rread_s {b : List UInt8} (hb : b.length = 32) : m56 b = some (wl (be b)) := by
  refine (m56_eq _).trans ?_
  unfold b56
  obtain ⟨m, hm⟩ := fuel_ge 33 (by decide)
  obtain ⟨la, lb, lc, ld, ha, hb', hc, hd, rfl⟩ := parts8 hb
  obtain ⟨a0, a1, a2, a3, a4, a5, a6, a7, rfl⟩ := len8 ha
  obtain ⟨b0, b1, b2, b3, b4, b5, b6, b7, rfl⟩ := len8 hb'
  obtain ⟨c0, c1, c2, c3, c4, c5, c6, c7, rfl⟩ := len8 hc
  obtain ⟨d0, d1, d2, d3, d4, d5, d6, d7, rfl⟩ := len8 hd
  have hl : ∀ z, l56_0 ((0 : Int), [a0, a1, a2, a3, a4, a5, a6, a7] ++ [b0, b1, b2, b3, b4, b5, b6, b7] ++ [c0, c1, c2, c3, c4, c5, c6, c7] ++ [d0, d1, d2, d3, d4, d5, d6, d7], z, [(0 : UInt64), 0, 0, 0]) =
      some (.x (z, [mw 0 [d0, d1, d2, d3, d4, d5, d6, d7], mw 0 [c0, c1, c2, c3, c4, c5, c6, c7], mw 0 [b0, b1, b2, b3, b4, b5, b6, b7], mw 0 [a0, a1, a2, a3, a4, a5, a6, a7]])) := fun z => by
    unfold l56_0
    rw [hm]
    kernel_rfl
  refine bnd_ex' (hl _) ?_
  refine congrArg some (four_be ha hb' hc hd ?_ ?_ ?_ ?_)
  · exact mw_be [a0, a1, a2, a3, a4, a5, a6, a7] [] 0 rfl (Nat.le_of_ble_eq_true rfl)
  · exact mw_be [b0, b1, b2, b3, b4, b5, b6, b7] [] 0 rfl (Nat.le_of_ble_eq_true rfl)
  · exact mw_be [c0, c1, c2, c3, c4, c5, c6, c7] [] 0 rfl (Nat.le_of_ble_eq_true rfl)
  · exact mw_be [d0, d1, d2, d3, d4, d5, d6, d7] [] 0 rfl (Nat.le_of_ble_eq_true rfl)
theorem r_b (w : World) (l : List UInt8) (n : Nat) (h : l.length = n) {F : Nat → Prop} : AVR F w [] [] (.dat (.arr n (.int .u8)) l) (.agg (cellsOf l).toArray) := by
  refine ⟨_, rfl, h, l.map fun c => [Value.int .u8 (c.toNat : Int)], ?_, ?_⟩
  · clear h
    induction l with
    | nil => rfl
    | cons c l ih => rw [List.map_cons, List.flatten_cons, ← ih]; rfl
  · clear h
    induction l with
    | nil => trivial
    | cons c l ih => exact ⟨rfl, ih⟩
end Go.Proofs.Ytpfoeeiacfadfaa.Q
