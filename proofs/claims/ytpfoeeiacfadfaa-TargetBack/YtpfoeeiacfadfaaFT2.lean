/-
  What the document's side of layer 10 tells, in numbers: Expand.
-/
import Derived.Test.YtpfoeeiacfadfaaFT1
namespace Go.Proofs.Ytpfoeeiacfadfaa.Q
open Go.RowKit

theorem getD_set_b (l : List UInt8) (i j : Nat) (v : UInt8) (h : i < l.length) : (l.set i v).getD j 0 = if i = j then v else l.getD j 0 := by
  rw [List.getD_eq_getElem?_getD, List.getD_eq_getElem?_getD, List.getElem?_set]
  by_cases e : i = j
  · subst e; simp [h]
  · simp [e]
theorem be_set : ∀ (l : List UInt8) (j : Nat) (c : UInt8), j < l.length → l.getD j 0 = 0 → be (l.set j c) = be l + c.toNat * 256 ^ (l.length - 1 - j)
  | [], _, _, h, _ => absurd h (Nat.not_lt_zero _)
  | a :: l, 0, c, _, h0 => by
    have h0 : a = 0 := h0
    subst h0
    show c.toNat * 256 ^ l.length + be l = (0 : UInt8).toNat * 256 ^ l.length + be l + c.toNat * 256 ^ (l.length + 1 - 1 - 0)
    rw [show l.length + 1 - 1 - 0 = l.length by omega, show (0 : UInt8).toNat = 0 from rfl, Nat.zero_mul]
    omega
  | a :: l, j + 1, c, h, h0 => by
    have ih := be_set l j c (by simpa using h) h0
    show a.toNat * 256 ^ (l.set j c).length + be (l.set j c) = a.toNat * 256 ^ l.length + be l + c.toNat * 256 ^ (l.length + 1 - 1 - (j + 1))
    rw [ih, List.length_set, show l.length + 1 - 1 - (j + 1) = l.length - 1 - j by omega]
    omega
def zs : List UInt8 := [0, 0, 0, 0, 0, 0, 0, 0, 0, 0, 0, 0, 0, 0, 0, 0, 0, 0, 0, 0, 0, 0, 0, 0, 0, 0, 0, 0, 0, 0, 0, 0]
theorem zs_len : zs.length = 32 := rfl
theorem zs_be : be zs = 0 := by decide
theorem zs_get (j : Nat) : zs.getD j 0 = 0 := by
  rw [show zs = List.replicate 32 0 from rfl, List.getD_eq_getElem?_getD, List.getElem?_replicate]
  split <;> rfl
/-- One byte laid at its place. -/
def layB (p : Nat) (c : UInt8) (l : List UInt8) : List UInt8 := l.set (31 - p) c
theorem layB_len {p : Nat} {c : UInt8} {l : List UInt8} (h : l.length = 32) : (layB p c l).length = 32 := by unfold layB; rw [List.length_set, h]
theorem layB_be {p : Nat} {c : UInt8} {l : List UInt8} (h : l.length = 32) (hp : p < 32) (h0 : l.getD (31 - p) 0 = 0) : be (layB p c l) = be l + c.toNat * 256 ^ p := by
  unfold layB
  rw [be_set l _ c (by omega) h0, h, show 32 - 1 - (31 - p) = p by omega]
theorem layB_get {p q : Nat} {c : UInt8} {l : List UInt8} (h : l.length = 32) (hp : p < 32) (hq : q < 32) (hne : p ≠ q) : (layB p c l).getD (31 - q) 0 = l.getD (31 - q) 0 := by
  unfold layB
  rw [getD_set_b _ _ _ _ (by omega), if_neg (by omega)]
section
variable (f : Int × List UInt8 × Bool × Int × List UInt64 × List UInt8 → Option (O3 Unit (Bool × List UInt64 × List UInt8) (Int × List UInt64)))
variable {e i : Nat} {ms : List UInt8} {c : UInt8} {any : Bool} {z : List UInt64} {out : List UInt8}
theorem st_pre (g : Option (O3 Unit (Bool × List UInt64 × List UInt8) (Int × List UInt64))) (he : e < 256) (hi : i < 3) : inR .i64 ((e : Int) - 1) = true ∧ inR .i64 ((e : Int) - 1 - (i : Int)) = true ∧ inR .i64 ((i : Int) + 1) = true ∧ g = g :=
  ⟨inR_of (by omega) (by omega), inR_of (by omega) (by omega), inR_of (by omega) (by omega), rfl⟩
/-- Too high, and not nought. -/
theorem st_hi (he : e < 256) (hi : i < 3) (hm : ms.length = 3) (hc : ms.getD i 0 = c) (hp : 32 ≤ (e : Int) - 1 - (i : Int)) (h0 : c ≠ 0) :
    T.k33_1 f ((e : Int), ms, any, (i : Int), z, out) = some (.r ((3 : Int), [0, 0, 0, 0])) := by
  obtain ⟨g1, g2, g3, _⟩ := st_pre none he hi
  unfold T.k33_1
  refine Eq.trans (cnd_t (decide_eq_true (show (i : Int) < 3 by omega)) _ _) ?_
  refine Eq.trans (guard_if g1 _) ?_
  refine Eq.trans (guard_if g2 _) ?_
  refine Eq.trans (cnd_t (decide_eq_true hp) _ _) ?_
  refine Eq.trans (guard_if (inB_nat (show i < ms.length by omega)) _) ?_
  have hd : decide (List.getD ms i (0 : UInt8) = (0 : UInt8)) = false := decide_eq_false (by rw [hc]; exact h0)
  refine Eq.trans (cnd_t (congrArg (fun b => !b) hd) _ _) ?_
  rfl
/-- Too high, but nought. -/
theorem st_hi0 (he : e < 256) (hi : i < 3) (hm : ms.length = 3) (hc : ms.getD i 0 = 0) (hp : 32 ≤ (e : Int) - 1 - (i : Int)) :
    T.k33_1 f ((e : Int), ms, any, (i : Int), z, out) = f ((e : Int), ms, any, ((i + 1 : Nat) : Int), z, out) := by
  obtain ⟨g1, g2, g3, _⟩ := st_pre none he hi
  unfold T.k33_1
  refine Eq.trans (cnd_t (decide_eq_true (show (i : Int) < 3 by omega)) _ _) ?_
  refine Eq.trans (guard_if g1 _) ?_
  refine Eq.trans (guard_if g2 _) ?_
  refine Eq.trans (cnd_t (decide_eq_true hp) _ _) ?_
  refine Eq.trans (guard_if (inB_nat (show i < ms.length by omega)) _) ?_
  have hd : decide (List.getD ms i (0 : UInt8) = (0 : UInt8)) = true := decide_eq_true hc
  refine Eq.trans (cnd_f (congrArg (fun b => !b) hd) _ _) ?_
  refine Eq.trans (cnd_t (decide_eq_true (show (0 : Int) ≤ (e : Int) - 1 - (i : Int) by omega)) _ _) ?_
  refine Eq.trans (cnd_f (decide_eq_false (show ¬ (e : Int) - 1 - (i : Int) < 32 by omega)) _ _) ?_
  refine Eq.trans (guard_if g3 _) ?_
  rfl
/-- Below all places. -/
theorem st_lo (he : e < 256) (hi : i < 3) (hp : (e : Int) - 1 - (i : Int) < 0) :
    T.k33_1 f ((e : Int), ms, any, (i : Int), z, out) = f ((e : Int), ms, any, ((i + 1 : Nat) : Int), z, out) := by
  obtain ⟨g1, g2, g3, _⟩ := st_pre none he hi
  unfold T.k33_1
  refine Eq.trans (cnd_t (decide_eq_true (show (i : Int) < 3 by omega)) _ _) ?_
  refine Eq.trans (guard_if g1 _) ?_
  refine Eq.trans (guard_if g2 _) ?_
  refine Eq.trans (cnd_f (decide_eq_false (show ¬ 32 ≤ (e : Int) - 1 - (i : Int) by omega)) _ _) ?_
  refine Eq.trans (cnd_f (decide_eq_false (show ¬ 0 ≤ (e : Int) - 1 - (i : Int) by omega)) _ _) ?_
  refine Eq.trans (guard_if g3 _) ?_
  rfl
/-- At a place. -/
theorem st_in (he : e < 256) (hi : i < 3) (hm : ms.length = 3) (hc : ms.getD i 0 = c) (p : Nat) (hp : (e : Int) - 1 - (i : Int) = (p : Int)) (hp2 : p < 32) :
    T.k33_1 f ((e : Int), ms, any, (i : Int), z, out) = f ((e : Int), ms, (any || !(decide (c = 0))), ((i + 1 : Nat) : Int), z, layB p c out) := by
  obtain ⟨g1, g2, g3, _⟩ := st_pre none he hi
  have e31 : (31 : Int) - ((e : Int) - 1 - (i : Int)) = ((31 - p : Nat) : Int) := by omega
  unfold T.k33_1
  refine Eq.trans (cnd_t (decide_eq_true (show (i : Int) < 3 by omega)) _ _) ?_
  refine Eq.trans (guard_if g1 _) ?_
  refine Eq.trans (guard_if g2 _) ?_
  refine Eq.trans (cnd_f (decide_eq_false (show ¬ 32 ≤ (e : Int) - 1 - (i : Int) by omega)) _ _) ?_
  refine Eq.trans (cnd_t (decide_eq_true (show (0 : Int) ≤ (e : Int) - 1 - (i : Int) by omega)) _ _) ?_
  refine Eq.trans (cnd_t (decide_eq_true (show (e : Int) - 1 - (i : Int) < 32 by omega)) _ _) ?_
  refine Eq.trans (guard_if (show inR .i64 ((31 : Int) - ((e : Int) - 1 - (i : Int))) = true from inR_of (by omega) (by omega)) _) ?_
  refine Eq.trans (guard_if (inB_nat (show i < ms.length by omega)) _) ?_
  refine Eq.trans (guard_if (by rw [e31]; exact inB_nat (by omega)) _) ?_
  have eo : List.set out ((31 : Int) - ((e : Int) - 1 - (i : Int))).toNat (List.getD ms i (0 : UInt8)) = layB p c out := by
    rw [e31, hc]; rfl
  cases any with
  | true =>
    refine Eq.trans (cnd_t rfl _ _) ?_
    refine Eq.trans (guard_if g3 _) ?_
    exact congrArg (fun o => f ((e : Int), ms, true, (i : Int) + 1, z, o)) eo
  | false =>
    refine Eq.trans (cnd_f rfl _ _) ?_
    refine Eq.trans (guard_if (inB_nat (show i < ms.length by omega)) _) ?_
    refine Eq.trans (guard_if g3 _) ?_
    have ea : (!(decide (List.getD ms i (0 : UInt8) = (0 : UInt8)))) = (false || !(decide (c = 0))) := by rw [hc]; rfl
    exact (congrArg (fun o => f ((e : Int), ms, (!(decide (List.getD ms i (0 : UInt8) = (0 : UInt8)))), (i : Int) + 1, z, o)) eo).trans (congrArg (fun a => f ((e : Int), ms, a, (i : Int) + 1, z, layB p c out)) ea)
theorem st_end : T.k33_1 f ((e : Int), ms, any, ((2 + 1 : Nat) : Int), z, out) = some (.x (any, z, out)) := rfl
end
/-! The whole. -/
def c0 (n : Nat) : Nat := n / 65536 % 128
def c1 (n : Nat) : Nat := n / 256 % 256
def c2 (n : Nat) : Nat := n % 256
theorem man_c (n : Nat) : manT n = c0 n * 65536 + c1 n * 256 + c2 n := by unfold manT c0 c1 c2; omega
theorem c_lt (n : Nat) : c0 n < 256 ∧ c1 n < 256 ∧ c2 n < 256 := by unfold c0 c1 c2; omega
theorem u8n {n : Nat} (h : n < 256) : (UInt8.ofNat n).toNat = n := by rw [UInt8.toNat_ofNat']; exact Nat.mod_eq_of_lt h
theorem u8z {n : Nat} (h : n < 256) : (UInt8.ofNat n = 0) ↔ n = 0 := by
  constructor
  · intro e
    have := congrArg UInt8.toNat e
    rwa [u8n h] at this
  · intro e; rw [e]; rfl
def ms (n : Nat) : List UInt8 := [UInt8.ofNat (c0 n), UInt8.ofNat (c1 n), UInt8.ofNat (c2 n)]
theorem ms_s (b : UInt32) : [UInt32.toUInt8 (b / 65536 % 128), UInt32.toUInt8 (b / 256), UInt32.toUInt8 b] = ms b.toNat := by
  have key : ∀ (x : UInt32) (n : Nat), x.toNat % 256 = n → n < 256 → x.toUInt8 = UInt8.ofNat n := fun x n h hn => UInt8.toNat_inj.1 (by rw [u8n hn, UInt32.toNat_toUInt8]; exact h)
  have h := c_lt b.toNat
  unfold ms
  rw [key (b / 65536 % 128) (c0 b.toNat) (by rw [UInt32.toNat_mod, UInt32.toNat_div]; show b.toNat / 65536 % 128 % 256 = b.toNat / 65536 % 128; omega) h.1,
    key (b / 256) (c1 b.toNat) (by rw [UInt32.toNat_div]; rfl) h.2.1, key b (c2 b.toNat) rfl h.2.2]
/-- What becomes of the loop: told an error, or a number laid. -/
def LoopTo (n : Nat) (o : Option (O3 Unit (Bool × List UInt64 × List UInt8) (Int × List UInt64))) (z : List UInt64) : Prop :=
  (o = some (.r ((3 : Int), [0, 0, 0, 0])) ∧ ¬ (rawT n < M ∧ rawT n ≠ 0)) ∨ (∃ any out, o = some (.x (any, z, out)) ∧ out.length = 32 ∧ (any = true → be out = rawT n ∧ rawT n ≠ 0) ∧ (any = false → rawT n = 0 ∨ M ≤ rawT n))
theorem or3 (a b c : Nat) (ha : a < 256) (hb : b < 256) (hc : c < 256) : (((false || !(decide (UInt8.ofNat a = 0))) || !(decide (UInt8.ofNat b = 0))) || !(decide (UInt8.ofNat c = 0))) = decide (¬ (a = 0 ∧ b = 0 ∧ c = 0)) := by
  have e : ∀ x, x < 256 → decide (UInt8.ofNat x = 0) = decide (x = 0) := fun x hx => decide_eq_decide.2 (u8z hx)
  rw [e a ha, e b hb, e c hc]
  by_cases h1 : a = 0 <;> by_cases h2 : b = 0 <;> by_cases h3 : c = 0 <;> simp [h1, h2, h3]
theorem or2 (b c : Nat) (hb : b < 256) (hc : c < 256) : ((false || !(decide (UInt8.ofNat b = 0))) || !(decide (UInt8.ofNat c = 0))) = decide (¬ (b = 0 ∧ c = 0)) := by
  have e : ∀ x, x < 256 → decide (UInt8.ofNat x = 0) = decide (x = 0) := fun x hx => decide_eq_decide.2 (u8z hx)
  rw [e b hb, e c hc]
  by_cases h2 : b = 0 <;> by_cases h3 : c = 0 <;> simp [h2, h3]
theorem or1 (c : Nat) (hc : c < 256) : (false || !(decide (UInt8.ofNat c = 0))) = decide (¬ c = 0) := by
  rw [show decide (UInt8.ofNat c = 0) = decide (c = 0) from decide_eq_decide.2 (u8z hc)]
  by_cases h3 : c = 0 <;> simp [h3]
theorem raw_hi {n : Nat} (h : 3 ≤ expT n) : rawT n = manT n * 2 ^ (8 * (expT n - 3)) := by
  unfold rawT; rw [show 3 - expT n = 0 by omega, Nat.mul_zero, Nat.pow_zero, Nat.div_one]
theorem p256 (k : Nat) : 256 ^ k = 2 ^ (8 * k) := by rw [Nat.pow_mul]
theorem big_raw {n k : Nat} (h0 : manT n ≠ 0) (hk : 32 ≤ k) (h : rawT n = manT n * 2 ^ (8 * k)) : M ≤ rawT n := by
  rw [h, M_pow]
  have h1 : 2 ^ 256 ≤ 2 ^ (8 * k) := Nat.pow_le_pow_right (by decide) (by omega)
  exact Nat.le_trans h1 (Nat.le_mul_of_pos_left _ (Nat.pos_of_ne_zero h0))
theorem loop_to (n : Nat) (hn : n < 4294967296) (z : List UInt64) (m : Nat) : LoopTo n (itN T.k33_1 (m + 4) ((expT n : Int), ms n, false, ((0 : Nat) : Int), z, zs)) z := by
  have he := exp_lt hn
  obtain ⟨l0, l1, l2⟩ := c_lt n
  have hm := man_c n
  have hml : (ms n).length = 3 := rfl
  have g0 : (ms n).getD 0 0 = UInt8.ofNat (c0 n) := rfl
  have g1 : (ms n).getD 1 0 = UInt8.ofNat (c1 n) := rfl
  have g2 : (ms n).getD 2 0 = UInt8.ofNat (c2 n) := rfl
  have n0 := u8n l0
  have n1 := u8n l1
  have n2 := u8n l2
  generalize hms : ms n = q at *
  generalize hc0 : UInt8.ofNat (c0 n) = u0 at *
  generalize hc1 : UInt8.ofNat (c1 n) = u1 at *
  generalize hc2 : UInt8.ofNat (c2 n) = u2 at *
  rw [show m + 4 = (m + 3) + 1 from rfl, itN_succ]
  rcases (show expT n = 0 ∨ expT n = 1 ∨ expT n = 2 ∨ (3 ≤ expT n ∧ expT n ≤ 32) ∨ expT n = 33 ∨ expT n = 34 ∨ 35 ≤ expT n by omega) with h | h | h | h | h | h | h
  · -- nothing is laid
    have hr : rawT n = 0 := by
      unfold rawT; rw [h]
      refine Nat.div_eq_of_lt ?_
      have := man_lt n
      show manT n * 1 < 2 ^ 24
      omega
    rw [h, st_lo _ (by omega) (by decide) (by omega), show m + 3 = (m + 2) + 1 from rfl, itN_succ, st_lo _ (by omega) (by decide) (by omega), show m + 2 = (m + 1) + 1 from rfl, itN_succ, st_lo _ (by omega) (by decide) (by omega), itN_succ, st_end]
    exact .inr ⟨false, zs, rfl, zs_len, fun h => (by cases h), fun _ => .inl hr⟩
  · have hr : rawT n = c0 n := by
      unfold rawT; rw [h]
      show manT n * 1 / 65536 = _
      rw [hm]; omega
    rw [h, st_in _ (by omega) (by decide) hml g0 0 (by omega) (by decide), show m + 3 = (m + 2) + 1 from rfl, itN_succ, st_lo _ (by omega) (by decide) (by omega), show m + 2 = (m + 1) + 1 from rfl, itN_succ, st_lo _ (by omega) (by decide) (by omega), itN_succ, st_end]
    refine .inr ⟨_, _, rfl, layB_len zs_len, fun h => ?_, fun h => ?_⟩
    · rw [← hc0, or1 _ l0, decide_eq_true_eq] at h
      rw [layB_be zs_len (by decide) (zs_get _), zs_be, n0, hr]
      exact ⟨by omega, h⟩
    · rw [← hc0, or1 _ l0, decide_eq_false_iff_not, Classical.not_not] at h
      exact .inl (hr.trans h)
  · have hr : rawT n = c0 n * 256 + c1 n := by
      unfold rawT; rw [h]
      show manT n * 1 / 256 = _
      rw [hm]; omega
    rw [h, st_in _ (by omega) (by decide) hml g0 1 (by omega) (by decide), show m + 3 = (m + 2) + 1 from rfl, itN_succ, st_in _ (by omega) (by decide) hml g1 0 (by omega) (by decide), show m + 2 = (m + 1) + 1 from rfl, itN_succ, st_lo _ (by omega) (by decide) (by omega), itN_succ, st_end]
    refine .inr ⟨_, _, rfl, layB_len (layB_len zs_len), fun h => ?_, fun h => ?_⟩
    · rw [← hc0, ← hc1, or2 _ _ l0 l1, decide_eq_true_eq] at h
      rw [layB_be (layB_len zs_len) (by decide) (by rw [layB_get zs_len (by decide) (by decide) (by decide)]; exact zs_get _), layB_be zs_len (by decide) (zs_get _), zs_be, n0, n1, hr]
      exact ⟨by omega, by omega⟩
    · rw [← hc0, ← hc1, or2 _ _ l0 l1, decide_eq_false_iff_not, Classical.not_not] at h
      exact .inl (by omega)
  · obtain ⟨k, hk⟩ : ∃ k, expT n = k + 3 := ⟨expT n - 3, by omega⟩
    have hr : rawT n = c0 n * 256 ^ (k + 2) + c1 n * 256 ^ (k + 1) + c2 n * 256 ^ k := by
      rw [raw_hi h.1, hm, show expT n - 3 = k by omega, ← p256, Nat.pow_succ, Nat.pow_succ, Nat.add_mul, Nat.add_mul, Nat.mul_assoc (c0 n), Nat.mul_assoc (c1 n), Nat.mul_comm 65536, Nat.mul_comm 256, Nat.mul_assoc (256 ^ k)]
    rw [hk, st_in _ (by omega) (by decide) hml g0 (k + 2) (by omega) (by omega), show m + 3 = (m + 2) + 1 from rfl, itN_succ, st_in _ (by omega) (by decide) hml g1 (k + 1) (by omega) (by omega), show m + 2 = (m + 1) + 1 from rfl, itN_succ, st_in _ (by omega) (by decide) hml g2 k (by omega) (by omega), itN_succ, st_end]
    have L1 : (layB (k + 2) u0 zs).length = 32 := layB_len zs_len
    have L2 : (layB (k + 1) u1 (layB (k + 2) u0 zs)).length = 32 := layB_len L1
    have B1 : be (layB (k + 2) u0 zs) = c0 n * 256 ^ (k + 2) := by rw [layB_be zs_len (by omega) (zs_get _), zs_be, n0, Nat.zero_add]
    have B2 : be (layB (k + 1) u1 (layB (k + 2) u0 zs)) = c0 n * 256 ^ (k + 2) + c1 n * 256 ^ (k + 1) := by
      rw [layB_be L1 (by omega) (by rw [layB_get zs_len (by omega) (by omega) (by omega)]; exact zs_get _), B1, n1]
    have B3 : be (layB k u2 (layB (k + 1) u1 (layB (k + 2) u0 zs))) = rawT n := by
      rw [layB_be L2 (by omega) (by rw [layB_get L1 (by omega) (by omega) (by omega), layB_get zs_len (by omega) (by omega) (by omega)]; exact zs_get _), B2, n2, hr]
    have hp := Nat.pow_pos (n := k) (show 0 < 256 by decide)
    refine .inr ⟨_, _, rfl, layB_len L2, fun h => ?_, fun h => ?_⟩
    · rw [← hc0, ← hc1, ← hc2, or3 _ _ _ l0 l1 l2, decide_eq_true_eq] at h
      refine ⟨B3, fun e => h ?_⟩
      rw [raw_hi (by omega)] at e
      rcases Nat.mul_eq_zero.1 e with e | e
      · omega
      · exact absurd e (Nat.ne_of_gt (Nat.two_pow_pos _))
    · rw [← hc0, ← hc1, ← hc2, or3 _ _ _ l0 l1 l2, decide_eq_false_iff_not, Classical.not_not] at h
      refine .inl ?_
      rw [hr, h.1, h.2.1, h.2.2, Nat.zero_mul, Nat.zero_mul, Nat.zero_mul]
  · have hr : rawT n = manT n * 2 ^ 240 := by rw [raw_hi (by omega), h]
    by_cases h0 : c0 n = 0
    · have u0z : q.getD 0 0 = 0 := by rw [g0, ← hc0, h0]; rfl
      rw [h, st_hi0 _ (by omega) (by decide) hml u0z (by omega), show m + 3 = (m + 2) + 1 from rfl, itN_succ, st_in _ (by omega) (by decide) hml g1 31 (by omega) (by decide), show m + 2 = (m + 1) + 1 from rfl, itN_succ, st_in _ (by omega) (by decide) hml g2 30 (by omega) (by decide), itN_succ, st_end]
      have L1 : (layB 31 u1 zs).length = 32 := layB_len zs_len
      refine .inr ⟨_, _, rfl, layB_len L1, fun h => ?_, fun h => ?_⟩
      · rw [← hc1, ← hc2, or2 _ _ l1 l2, decide_eq_true_eq] at h
        rw [layB_be L1 (by decide) (by rw [layB_get zs_len (by decide) (by decide) (by decide)]; exact zs_get _), layB_be zs_len (by decide) (zs_get _), zs_be, n1, n2, hr, hm, h0]
        exact ⟨by omega, by omega⟩
      · rw [← hc1, ← hc2, or2 _ _ l1 l2, decide_eq_false_iff_not, Classical.not_not] at h
        exact .inl (by rw [hr, hm, h0, h.1, h.2])
    · rw [h, st_hi _ (by omega) (by decide) hml g0 (by omega) (fun e => h0 (by rw [← n0, e]; rfl))]
      exact .inl ⟨rfl, fun hc => by
        have := hc.1
        rw [hr, hm] at this
        unfold M at this; omega⟩
  · have hr : rawT n = manT n * 2 ^ 248 := by rw [raw_hi (by omega), h]
    by_cases h0 : c0 n = 0
    · have u0z : q.getD 0 0 = 0 := by rw [g0, ← hc0, h0]; rfl
      rw [h, st_hi0 _ (by omega) (by decide) hml u0z (by omega), show m + 3 = (m + 2) + 1 from rfl, itN_succ]
      by_cases h1 : c1 n = 0
      · have u1z : q.getD 1 0 = 0 := by rw [g1, ← hc1, h1]; rfl
        rw [st_hi0 _ (by omega) (by decide) hml u1z (by omega), show m + 2 = (m + 1) + 1 from rfl, itN_succ, st_in _ (by omega) (by decide) hml g2 31 (by omega) (by decide), itN_succ, st_end]
        refine .inr ⟨_, _, rfl, layB_len zs_len, fun h => ?_, fun h => ?_⟩
        · rw [← hc2, or1 _ l2, decide_eq_true_eq] at h
          rw [layB_be zs_len (by decide) (zs_get _), zs_be, n2, hr, hm, h0, h1]
          exact ⟨by omega, by omega⟩
        · rw [← hc2, or1 _ l2, decide_eq_false_iff_not, Classical.not_not] at h
          exact .inl (by rw [hr, hm, h0, h1, h])
      · rw [st_hi _ (by omega) (by decide) hml g1 (by omega) (fun e => h1 (by rw [← n1, e]; rfl))]
        exact .inl ⟨rfl, fun hc => by
          have := hc.1
          rw [hr, hm] at this
          unfold M at this; omega⟩
    · rw [h, st_hi _ (by omega) (by decide) hml g0 (by omega) (fun e => h0 (by rw [← n0, e]; rfl))]
      exact .inl ⟨rfl, fun hc => by
        have := hc.1
        rw [hr, hm] at this
        unfold M at this; omega⟩
  · have hr := raw_hi (n := n) (by omega)
    have hbig : manT n ≠ 0 → ¬ (rawT n < M ∧ rawT n ≠ 0) := fun h0 hc => by
      have := big_raw h0 (by omega) hr
      omega
    by_cases h0 : c0 n = 0
    · have u0z : q.getD 0 0 = 0 := by rw [g0, ← hc0, h0]; rfl
      rw [st_hi0 _ he (by decide) hml u0z (by omega), show m + 3 = (m + 2) + 1 from rfl, itN_succ]
      by_cases h1 : c1 n = 0
      · have u1z : q.getD 1 0 = 0 := by rw [g1, ← hc1, h1]; rfl
        rw [st_hi0 _ he (by decide) hml u1z (by omega), show m + 2 = (m + 1) + 1 from rfl, itN_succ]
        by_cases h2 : c2 n = 0
        · have u2z : q.getD 2 0 = 0 := by rw [g2, ← hc2, h2]; rfl
          rw [st_hi0 _ he (by decide) hml u2z (by omega), itN_succ, st_end]
          refine .inr ⟨_, _, rfl, zs_len, fun h => (by cases h), fun _ => .inl ?_⟩
          rw [hr, hm, h0, h1, h2]; exact Nat.zero_mul _
        · rw [st_hi _ he (by decide) hml g2 (by omega) (fun e => h2 (by rw [← n2, e]; rfl))]
          exact .inl ⟨rfl, hbig (by omega)⟩
      · rw [st_hi _ he (by decide) hml g1 (by omega) (fun e => h1 (by rw [← n1, e]; rfl))]
        exact .inl ⟨rfl, hbig (by omega)⟩
    · rw [st_hi _ he (by decide) hml g0 (by omega) (fun e => h0 (by rw [← n0, e]; rfl))]
      exact .inl ⟨rfl, hbig (by omega)⟩
theorem rexpand_s (b : UInt32) : T.m33 b = some (if okT b.toNat then (wl (rawT b.toNat), (0 : Int)) else (wl 0, (3 : Int))) := by
  have hn := ut32 b
  refine (T.m33_eq _).trans ?_
  unfold T.b33
  have he := exp_lt hn
  have ee : ((b / 16777216 : UInt32).toNat : Int) = (expT b.toNat : Int) := by rw [UInt32.toNat_div]; rfl
  refine Eq.trans (guard_if rfl _) ?_
  refine Eq.trans (guard_if (by rw [ee]; exact inR_of (by omega) (by omega)) _) ?_
  rw [ee]
  have hbar : decide (b / 8388608 % 2 = (1 : UInt32)) = decide (¬ b.toNat / 8388608 % 2 = 0) := by
    have e : (b / 8388608 % 2 : UInt32).toNat = b.toNat / 8388608 % 2 := by rw [UInt32.toNat_mod, UInt32.toNat_div]; rfl
    refine decide_eq_decide.2 ⟨fun h => ?_, fun h => u32_eq ?_⟩
    · have := congrArg UInt32.toNat h
      rw [e] at this
      have h1 : (1 : UInt32).toNat = 1 := rfl
      omega
    · rw [e]
      have h1 : (1 : UInt32).toNat = 1 := rfl
      omega
  by_cases h0 : b.toNat / 8388608 % 2 = 0
  · refine Eq.trans (cnd_f (hbar.trans (decide_eq_false (Classical.not_not.2 h0))) _ _) ?_
    rw [ms_s]
    obtain ⟨m, hf⟩ := fuel_ge 4 (by decide)
    have hl : LoopTo b.toNat (T.l33_1 ((expT b.toNat : Int), ms b.toNat, false, (0 : Int), List.replicate 4 (0 : UInt64), zs)) (List.replicate 4 (0 : UInt64)) := by
      unfold T.l33_1
      rw [hf]
      exact loop_to b.toNat hn _ m
    rcases hl with ⟨h1, h2⟩ | ⟨any, out, h1, h2, h3, h4⟩
    · refine bnd_ex' h1 ?_
      rw [if_neg fun hc => h2 hc.2]
      exact congrArg (fun l : List UInt64 => some (l, (3 : Int))) wl_zero
    · refine bnd_ex' h1 ?_
      cases any with
      | true =>
        obtain ⟨e1, e2⟩ := h3 rfl
        refine Eq.trans (cnd_f rfl _ _) ?_
        refine bnd_ex' (rread_s h2) ?_
        have := be_M out h2
        rw [if_pos ⟨h0, by omega, e2⟩, e1]
      | false =>
        refine Eq.trans (cnd_t rfl _ _) ?_
        rw [if_neg fun hc => by rcases h4 rfl with h5 | h5 <;> omega]
        exact congrArg (fun l : List UInt64 => some (l, (3 : Int))) wl_zero
  · refine Eq.trans (cnd_t (hbar.trans (decide_eq_true h0)) _ _) ?_
    rw [if_neg fun hc => h0 hc.1]
    exact congrArg (fun l : List UInt64 => some (l, (3 : Int))) wl_zero
end Go.Proofs.Ytpfoeeiacfadfaa.Q
