/-
  What the document's product modulo the prime tells: folded.
-/
import Derived.Test.YthlbdpmnljcapaaFD3
namespace Go.Proofs.Ythlbdpmnljcapaa.Q
open Go.RowKit

def sh32 (x : UInt64) : UInt64 := shlK .u64 x 32
theorem shl32 {n : Nat} (h : n < 4294967296) : sh32 (UInt64.ofNat n) = UInt64.ofNat (n * 4294967296) := by
  show UInt64.ofNat ((UInt64.ofNat n).toNat * 2 ^ min 32 64) = _
  rw [un _ (by omega)]; rfl
theorem add_of {a b : Nat} (h : a + b < 18446744073709551616) : UInt64.ofNat a + UInt64.ofNat b = UInt64.ofNat (a + b) := by
  refine u_eq ?_
  rw [UInt64.toNat_add, un _ h, un a (by omega), un b (by omega)]
  exact Nat.mod_eq_of_lt h
theorem mul_of {a : Nat} (h : a * 977 < 18446744073709551616) : UInt64.ofNat a * 977 = UInt64.ofNat (a * 977) := by
  refine u_eq ?_
  rw [UInt64.toNat_mul, un _ h, un a (by omega)]
  exact Nat.mod_eq_of_lt h
theorem j2 {d : List Nat} (hd : Dg d) {c i : Nat} (hc : c ≤ 979) (hi : i < 10) (z ee : List UInt64) :
    l76_2 (UInt64.ofNat c, (i : Int), decide ((i : Int) < 8), d.map UInt64.ofNat, z, ee) = some (.n (UInt64.ofNat (c + if i < 8 then d.getD i 0 + d.getD (8 + i) 0 * 977 else 0), (i : Int), d.map UInt64.ofNat, z, ee)) := by
  refine (l76_2_eq _).trans ?_
  unfold a76_2
  dsimp only
  have h1 := hd i
  have h2 := hd (8 + i)
  by_cases h : i < 8
  · refine Eq.trans (cnd_t (by simp; omega) _ _) ?_
    refine Eq.trans (guard_if (inB_nat (by omega)) _) ?_
    refine Eq.trans (guard_if (by unfold inR; simp; omega) _) ?_
    refine Eq.trans (guard_if (by rw [show (8 : Int) + (i : Int) = ((8 + i : Nat) : Int) by omega]; exact inB_nat (by omega)) _) ?_
    have key : UInt64.ofNat c + List.getD (d.map UInt64.ofNat) ((i : Int)).toNat (0 : UInt64) + List.getD (d.map UInt64.ofNat) ((8 : Int) + (i : Int)).toNat (0 : UInt64) * 977 = UInt64.ofNat (c + if i < 8 then d.getD i 0 + d.getD (8 + i) 0 * 977 else 0) := by
      rw [show ((8 : Int) + (i : Int)).toNat = 8 + i by omega, show ((i : Int)).toNat = i from rfl, gd, gd, mul_of (by omega), add_of (by omega), add_of (by omega), if_pos h, Nat.add_assoc]
    rw [key]
  · refine Eq.trans (cnd_f (by simp; omega) _ _) ?_
    rw [if_neg h, Nat.add_zero]
theorem j4 {d : List Nat} (hd : Dg d) {c i : Nat} (hc : c < 18446744069414584320) (b : Bool) (hi : b = true → i < 9) (z ee : List UInt64) :
    l76_4 (UInt64.ofNat c, (i : Int), b, d.map UInt64.ofNat, z, ee) = some (.n (UInt64.ofNat (c + if b = true then d.getD (7 + i) 0 else 0), (i : Int), d.map UInt64.ofNat, z, ee)) := by
  refine (l76_4_eq _).trans ?_
  unfold a76_4
  dsimp only
  have h1 := hd (7 + i)
  cases b with
  | true =>
    have hi := hi rfl
    refine Eq.trans (cnd_t rfl _ _) ?_
    refine Eq.trans (guard_if (by unfold inR; simp; omega) _) ?_
    refine Eq.trans (guard_if (by rw [show (7 : Int) + (i : Int) = ((7 + i : Nat) : Int) by omega]; exact inB_nat (by omega)) _) ?_
    have key : UInt64.ofNat c + List.getD (d.map UInt64.ofNat) ((7 : Int) + (i : Int)).toNat (0 : UInt64) = UInt64.ofNat (c + if true = true then d.getD (7 + i) 0 else 0) := by
      rw [show ((7 : Int) + (i : Int)).toNat = 7 + i by omega, gd, add_of (by omega), if_pos rfl]
    rw [key]
  | false =>
    refine Eq.trans (cnd_f rfl _ _) ?_
    rw [if_neg (by decide), Nat.add_zero]
theorem fo_turn (f : UInt64 × Int × List UInt64 × List UInt64 × List UInt64 → Option (O3 Unit (List UInt64 × List UInt64) Unit)) {d : List Nat} (hd : Dg d) {i : Nat} (hi : i < 10) (z : List UInt64) :
    k76_0 f (UInt64.ofNat (foS d i).1, (i : Int), d.map UInt64.ofNat, z, (foS d i).2.map UInt64.ofNat) = f (UInt64.ofNat (foS d (i + 1)).1, ((i + 1 : Nat) : Int), d.map UInt64.ofNat, z, (foS d (i + 1)).2.map UInt64.ofNat) := by
  obtain ⟨_, _, h3, _, _⟩ := foS_ok hd i (by omega)
  rw [show foS d (i + 1) = (((foS d i).1 + gf d i) / 4294967296, (foS d i).2.set i (((foS d i).1 + gf d i) % 4294967296)) from rfl]
  generalize foS d i = s at h3
  obtain ⟨c, l⟩ := s
  simp only at h3
  have hg := gf_lt hd i
  have hlt : c + gf d i < 18446744073709551616 := by omega
  unfold k76_0
  refine Eq.trans (cnd_t (by simp; omega) _ _) ?_
  refine bnd_ex' (j2 hd h3 hi z _) ?_
  have fin : ∀ x, x = c + gf d i → ∀ (F : UInt64 × Int × List UInt64 × List UInt64 × List UInt64 → Option (O3 Unit (List UInt64 × List UInt64) Unit)), F (shrK .u64 (UInt64.ofNat x) 32, (i : Int) + 1, d.map UInt64.ofNat, z, List.set (l.map UInt64.ofNat) ((i : Int)).toNat (andK .u64 (UInt64.ofNat x) (4294967295 : UInt64))) = F (UInt64.ofNat ((c + gf d i) / 4294967296), ((i + 1 : Nat) : Int), d.map UInt64.ofNat, z, (l.set i ((c + gf d i) % 4294967296)).map UInt64.ofNat) := fun x hx F => by
    subst hx
    rw [low32 hlt, high32 hlt]
    have e2 : (l.map UInt64.ofNat).set ((i : Int)).toNat (UInt64.ofNat ((c + gf d i) % 4294967296)) = (l.set i ((c + gf d i) % 4294967296)).map UInt64.ofNat := List.map_set.symm
    rw [e2]
    rfl
  have hA : (c + if i < 8 then d.getD i 0 + d.getD (8 + i) 0 * 977 else 0) < 18446744069414584320 := by
    have h1 := hd i; have h2 := hd (8 + i); split <;> omega
  by_cases h1 : 1 ≤ i
  · refine Eq.trans (cnd_t (by simp; omega) _ _) ?_
    refine bnd_ex' (j4 hd hA (decide ((i : Int) < 9)) (fun h => by simp at h; omega) z _) ?_
    refine Eq.trans (guard_if (inB_nat (by omega)) _) ?_
    refine Eq.trans (guard_if (inR_succ (by omega)) _) ?_
    refine fin _ ?_ f
    unfold gf
    by_cases h9 : i < 9
    · rw [if_pos (show decide ((i : Int) < 9) = true by simp; omega), if_pos (show 1 ≤ i ∧ i < 9 from ⟨h1, h9⟩), Nat.add_assoc]
    · rw [if_neg (show ¬ decide ((i : Int) < 9) = true by simp; omega), if_neg (show ¬ (1 ≤ i ∧ i < 9) from fun h => h9 h.2), Nat.add_assoc]
  · refine Eq.trans (cnd_f (by simp; omega) _ _) ?_
    refine bnd_ex' (j4 hd hA false (fun h => by cases h) z _) ?_
    refine Eq.trans (guard_if (inB_nat (by omega)) _) ?_
    refine Eq.trans (guard_if (inR_succ (by omega)) _) ?_
    refine fin _ ?_ f
    unfold gf
    rw [if_neg (show ¬ false = true by decide), if_neg (show ¬ (1 ≤ i ∧ i < 9) from fun h => h1 h.1), Nat.add_assoc]
theorem fo_all {d : List Nat} (hd : Dg d) (z : List UInt64) : ∀ (j m : Nat), j ≤ 10 →
    itN k76_0 (m + 1 + j) (UInt64.ofNat (foS d (10 - j)).1, ((10 - j : Nat) : Int), d.map UInt64.ofNat, z, (foS d (10 - j)).2.map UInt64.ofNat) = some (.x (z, (foS d 10).2.map UInt64.ofNat))
  | 0, m, _ => by rw [show m + 1 + 0 = m + 1 from rfl, itN_succ]; rfl
  | j + 1, m, hj => by
    rw [show m + 1 + (j + 1) = (m + 1 + j) + 1 from rfl, itN_succ, fo_turn _ hd (by omega) z, show 10 - (j + 1) + 1 = 10 - j by omega]
    exact fo_all hd z j m (by omega)
theorem pack_turn (f : UInt64 × Int × List UInt64 × List UInt64 × List UInt64 → Option (O3 Unit (UInt64 × List UInt64 × List UInt64) Unit)) (t : UInt64) {e : List Nat} (he : Dg e) {i : Nat} (hi : i < 4) (z w : List UInt64) :
    k76_5 f (t, (i : Int), z, e.map UInt64.ofNat, w) = f (t, ((i + 1 : Nat) : Int), z, e.map UInt64.ofNat, w.set i (UInt64.ofNat (e.getD (2 * i) 0 + e.getD (2 * i + 1) 0 * 4294967296))) := by
  unfold k76_5
  have h1 := he (2 * i)
  have h2 := he (2 * i + 1)
  have hr : inR .i64 ((2 : Int) * (i : Int)) = true := by unfold inR; simp; omega
  have e1 : (2 : Int) * (i : Int) = ((2 * i : Nat) : Int) := by omega
  refine Eq.trans (cnd_t (by simp; omega) _ _) ?_
  refine Eq.trans (guard_if hr _) ?_
  refine Eq.trans (guard_if (by show inB ((2 : Int) * (i : Int)) 10 = true; rw [e1]; exact inB_nat (by omega)) _) ?_
  refine Eq.trans (guard_if hr _) ?_
  refine Eq.trans (guard_if (by show inR .i64 ((2 : Int) * (i : Int) + 1) = true; unfold inR; simp; omega) _) ?_
  refine Eq.trans (guard_if (by show inB ((2 : Int) * (i : Int) + 1) 10 = true; rw [e1]; exact inB_nat (i := 2 * i + 1) (by omega)) _) ?_
  refine Eq.trans (guard_if (by rfl) _) ?_
  refine Eq.trans (guard_if (inB_nat hi) _) ?_
  refine Eq.trans (guard_if (inR_succ (by omega)) _) ?_
  have key : ∀ x y : UInt64, x = UInt64.ofNat (e.getD (2 * i) 0) → y = UInt64.ofNat (e.getD (2 * i + 1) 0) → x + sh32 y = UInt64.ofNat (e.getD (2 * i) 0 + e.getD (2 * i + 1) 0 * 4294967296) := fun x y hx hy => by
    subst hx hy
    have h3 : UInt64.ofNat (e.getD (2 * i) 0) + UInt64.ofNat (e.getD (2 * i + 1) 0 * 4294967296) = _ := add_of (by omega)
    exact (congrArg (fun q : UInt64 => UInt64.ofNat (e.getD (2 * i) 0) + q) (shl32 h2)).trans h3
  have hx : List.getD (e.map UInt64.ofNat) ((2 : Int) * (i : Int)).toNat (0 : UInt64) = UInt64.ofNat (e.getD (2 * i) 0) := by
    rw [show ((2 : Int) * (i : Int)).toNat = 2 * i by omega, gd]
  have hy : List.getD (e.map UInt64.ofNat) ((2 : Int) * (i : Int) + 1).toNat (0 : UInt64) = UInt64.ofNat (e.getD (2 * i + 1) 0) := by
    rw [show ((2 : Int) * (i : Int) + 1).toNat = 2 * i + 1 by omega, gd]
  exact congrArg f (congrArg (fun v => (t, ((i + 1 : Nat) : Int), z, e.map UInt64.ofNat, w.set i v)) (key _ _ hx hy))
theorem tw_n {t : Nat} (ht : t < 1099511627776) : t * 977 < 18446744073709551616 ∧ ((t * 977 + t * 4294967296 % 18446744073709551616) % 18446744073709551616 < t * 977 → (t * 977 + t * 4294967296 % 18446744073709551616) % 18446744073709551616 + 18446744073709551616 * (t / 4294967296 + 1) = t * 4294968273) ∧ (¬ (t * 977 + t * 4294967296 % 18446744073709551616) % 18446744073709551616 < t * 977 → (t * 977 + t * 4294967296 % 18446744073709551616) % 18446744073709551616 + 18446744073709551616 * (t / 4294967296 + 0) = t * 4294968273) := by
  refine ⟨by omega, fun h => by omega, fun h => by omega⟩
theorem tw_s {t : Nat} (ht : t < 1099511627776) : m90 (UInt64.ofNat t) = some (wl (t * Gp)) := by
  refine (m90_eq _).trans ?_
  unfold b90
  obtain ⟨n1, n2, n3⟩ := tw_n ht
  refine Eq.trans (guard_if (by rfl) _) ?_
  have hl : UInt64.ofNat t * 977 = UInt64.ofNat (t * 977) := mul_of n1
  have hh : sh32 (UInt64.ofNat t) = UInt64.ofNat (t * 4294967296 % 18446744073709551616) := by
    show UInt64.ofNat ((UInt64.ofNat t).toNat * 2 ^ min 32 64) = _
    rw [un t (by omega)]
    refine u_eq ?_
    rw [UInt64.toNat_ofNat', un _ (Nat.mod_lt _ (by decide))]; rfl
  have hs : UInt64.ofNat (t * 977) + UInt64.ofNat (t * 4294967296 % 18446744073709551616) = UInt64.ofNat ((t * 977 + t * 4294967296 % 18446744073709551616) % 18446744073709551616) := by
    refine u_eq ?_
    rw [UInt64.toNat_add, un _ n1, un _ (Nat.mod_lt _ (by decide)), un _ (Nat.mod_lt _ (by decide))]
  have hr : shrK .u64 (UInt64.ofNat t) 32 = UInt64.ofNat (t / 4294967296) := high32 (by omega)
  have main : ∀ lo hi s : UInt64, lo = UInt64.ofNat (t * 977) → s = UInt64.ofNat ((t * 977 + t * 4294967296 % 18446744073709551616) % 18446744073709551616) → ∀ z : List UInt64, l90_0 (UInt64.ofNat t, s, (0 : UInt64), decide (s < lo), z) = some (.n (UInt64.ofNat t, s, UInt64.ofNat (if (t * 977 + t * 4294967296 % 18446744073709551616) % 18446744073709551616 < t * 977 then 1 else 0), z)) := fun lo hi s h1 h2 z => by
    subst h1 h2
    refine (l90_0_eq _).trans ?_
    unfold a90_0
    have hd : decide (UInt64.ofNat ((t * 977 + t * 4294967296 % 18446744073709551616) % 18446744073709551616) < UInt64.ofNat (t * 977)) = decide ((t * 977 + t * 4294967296 % 18446744073709551616) % 18446744073709551616 < t * 977) := by
      rw [lt_nat, un _ n1, un _ (Nat.mod_lt _ (by decide))]
    by_cases h : (t * 977 + t * 4294967296 % 18446744073709551616) % 18446744073709551616 < t * 977
    · refine Eq.trans (cnd_t (hd.trans (decide_eq_true h)) _ _) ?_
      rw [if_pos h]; rfl
    · refine Eq.trans (cnd_f (hd.trans (decide_eq_false h)) _ _) ?_
      rw [if_neg h]; rfl
  refine bnd_ex' (main _ 0 _ hl ((congrArg (fun q : UInt64 => UInt64.ofNat t * 977 + q) hh).trans ((congrArg (fun q : UInt64 => q + UInt64.ofNat (t * 4294967296 % 18446744073709551616)) hl).trans hs)) _) ?_
  have hsum : UInt64.ofNat t * 977 + sh32 (UInt64.ofNat t) = UInt64.ofNat ((t * 977 + t * 4294967296 % 18446744073709551616) % 18446744073709551616) := (congrArg (fun q : UInt64 => UInt64.ofNat t * 977 + q) hh).trans ((congrArg (fun q : UInt64 => q + UInt64.ofNat (t * 4294967296 % 18446744073709551616)) hl).trans hs)
  refine congrArg some ?_
  have fin : ∀ c : Nat, c ≤ 1 → (t * 977 + t * 4294967296 % 18446744073709551616) % 18446744073709551616 + 18446744073709551616 * (t / 4294967296 + c) = t * 4294968273 → [UInt64.ofNat t * 977 + sh32 (UInt64.ofNat t), UInt64.ofNat (t / 4294967296) + UInt64.ofNat c, (0 : UInt64), (0 : UInt64)] = wl (t * Gp) := fun c hc he => by
    have e1 := congrArg (fun q : UInt64 => [q, UInt64.ofNat (t / 4294967296) + UInt64.ofNat c, (0 : UInt64), (0 : UInt64)]) hsum
    refine e1.trans ?_
    rw [add_of (by omega), wl4, un _ (Nat.mod_lt _ (by decide)), un _ (by omega), show (0 : UInt64).toNat = 0 from rfl]
    simp only [Nat.mul_zero, Nat.add_zero]
    rw [he]; rfl
  by_cases h : (t * 977 + t * 4294967296 % 18446744073709551616) % 18446744073709551616 < t * 977
  · have := fin 1 (by decide) (n2 h)
    rw [if_pos h]
    exact (congrArg (fun q : UInt64 => [UInt64.ofNat t * 977 + sh32 (UInt64.ofNat t), q + UInt64.ofNat 1, (0 : UInt64), (0 : UInt64)]) hr).trans this
  · have := fin 0 (by decide) (n3 h)
    rw [if_neg h]
    exact (congrArg (fun q : UInt64 => [UInt64.ofNat t * 977 + sh32 (UInt64.ofNat t), q + UInt64.ofNat 0, (0 : UInt64), (0 : UInt64)]) hr).trans this
/-! all together -/
theorem len10 {l : List Nat} (h : l.length = 10) : ∃ a b c d e f g i j k, l = [a, b, c, d, e, f, g, i, j, k] := by
  match l, h with
  | [a, b, c, d, e, f, g, i, j, k], _ => exact ⟨a, b, c, d, e, f, g, i, j, k, rfl⟩
theorem len16 {l : List Nat} (h : l.length = 16) : ∃ a b c d e f g i a' b' c' d' e' f' g' i', l = [a, b, c, d, e, f, g, i, a', b', c', d', e', f', g', i'] := by
  match l, h with
  | [a, b, c, d, e, f, g, i, a', b', c', d', e', f', g', i'], _ => exact ⟨a, b, c, d, e, f, g, i, a', b', c', d', e', f', g', i', rfl⟩
theorem gs_10 (d : List Nat) : gs d 10 = gf d 0 + 4294967296 * (gf d 1 + 4294967296 * (gf d 2 + 4294967296 * (gf d 3 + 4294967296 * (gf d 4 + 4294967296 * (gf d 5 + 4294967296 * (gf d 6 + 4294967296 * (gf d 7 + 4294967296 * (gf d 8 + 4294967296 * gf d 9)))))))) := by
  simp only [gs, Nat.pow_succ, Nat.pow_zero]
  generalize gf d 0 = a0; generalize gf d 1 = a1; generalize gf d 2 = a2; generalize gf d 3 = a3; generalize gf d 4 = a4; generalize gf d 5 = a5; generalize gf d 6 = a6; generalize gf d 7 = a7; generalize gf d 8 = a8; generalize gf d 9 = a9
  omega
theorem dv_app : ∀ l m : List Nat, dv (l ++ m) = dv l + 4294967296 ^ l.length * dv m
  | [], m => by simp [dv]
  | x :: l, m => by
    show x + 4294967296 * dv (l ++ m) = x + 4294967296 * dv l + 4294967296 ^ (l.length + 1) * dv m
    rw [dv_app l m, Nat.mul_add, Nat.pow_succ, Nat.mul_comm (4294967296 ^ l.length) 4294967296, Nat.mul_assoc, Nat.add_assoc]
theorem dv_add : ∀ l m : List Nat, l.length = m.length → dv (List.zipWith (· + ·) l m) = dv l + dv m
  | [], [], _ => rfl
  | x :: l, y :: m, h => by
    show (x + y) + 4294967296 * dv (List.zipWith (· + ·) l m) = (x + 4294967296 * dv l) + (y + 4294967296 * dv m)
    rw [dv_add l m (by simpa using h), Nat.mul_add]
    omega
  | [], _ :: _, h => by cases h
  | _ :: _, [], h => by cases h
theorem dv_mul (c : Nat) : ∀ l : List Nat, dv (l.map (· * c)) = dv l * c
  | [] => by simp [dv]
  | x :: l => by
    show x * c + 4294967296 * dv (l.map (· * c)) = (x + 4294967296 * dv l) * c
    rw [dv_mul c l, Nat.add_mul, Nat.mul_assoc]
theorem dv_00 (l : List Nat) : dv (l ++ [0, 0]) = dv l := by rw [dv_app]; simp [dv]
theorem dv_0 (l : List Nat) : dv (l ++ [0]) = dv l := by rw [dv_app]; simp [dv]
theorem gs_n (d0 d1 d2 d3 d4 d5 d6 d7 e0 e1 e2 e3 e4 e5 e6 e7 : Nat) : gs [d0, d1, d2, d3, d4, d5, d6, d7, e0, e1, e2, e3, e4, e5, e6, e7] 10 = dv [d0, d1, d2, d3, d4, d5, d6, d7] + dv [e0, e1, e2, e3, e4, e5, e6, e7] * 4294968273 := by
  have e : gs [d0, d1, d2, d3, d4, d5, d6, d7, e0, e1, e2, e3, e4, e5, e6, e7] 10 = dv (List.zipWith (· + ·) (List.zipWith (· + ·) ([d0, d1, d2, d3, d4, d5, d6, d7] ++ [0, 0]) (([e0, e1, e2, e3, e4, e5, e6, e7] ++ [0, 0]).map (· * 977))) (0 :: ([e0, e1, e2, e3, e4, e5, e6, e7] ++ [0]))) := by
    rw [gs_10]
    have g0 : gf [d0, d1, d2, d3, d4, d5, d6, d7, e0, e1, e2, e3, e4, e5, e6, e7] 0 = d0 + e0 * 977 := rfl
    have g1 : gf [d0, d1, d2, d3, d4, d5, d6, d7, e0, e1, e2, e3, e4, e5, e6, e7] 1 = d1 + e1 * 977 + e0 := rfl
    have g2 : gf [d0, d1, d2, d3, d4, d5, d6, d7, e0, e1, e2, e3, e4, e5, e6, e7] 2 = d2 + e2 * 977 + e1 := rfl
    have g3 : gf [d0, d1, d2, d3, d4, d5, d6, d7, e0, e1, e2, e3, e4, e5, e6, e7] 3 = d3 + e3 * 977 + e2 := rfl
    have g4 : gf [d0, d1, d2, d3, d4, d5, d6, d7, e0, e1, e2, e3, e4, e5, e6, e7] 4 = d4 + e4 * 977 + e3 := rfl
    have g5 : gf [d0, d1, d2, d3, d4, d5, d6, d7, e0, e1, e2, e3, e4, e5, e6, e7] 5 = d5 + e5 * 977 + e4 := rfl
    have g6 : gf [d0, d1, d2, d3, d4, d5, d6, d7, e0, e1, e2, e3, e4, e5, e6, e7] 6 = d6 + e6 * 977 + e5 := rfl
    have g7 : gf [d0, d1, d2, d3, d4, d5, d6, d7, e0, e1, e2, e3, e4, e5, e6, e7] 7 = d7 + e7 * 977 + e6 := rfl
    have g8 : gf [d0, d1, d2, d3, d4, d5, d6, d7, e0, e1, e2, e3, e4, e5, e6, e7] 8 = 0 + e7 := rfl
    have g9 : gf [d0, d1, d2, d3, d4, d5, d6, d7, e0, e1, e2, e3, e4, e5, e6, e7] 9 = 0 := rfl
    rw [g0, g1, g2, g3, g4, g5, g6, g7, g8, g9]
    simp only [List.cons_append, List.nil_append, List.map_cons, List.map_nil, List.zipWith_cons_cons, List.zipWith_nil_right, dv, Nat.add_zero, Nat.zero_add, Nat.mul_zero, Nat.zero_mul]
  rw [e, dv_add _ _ (by simp), dv_add _ _ (by simp), dv_mul, dv_00, dv_00]
  have h0 : dv (0 :: ([e0, e1, e2, e3, e4, e5, e6, e7] ++ [0])) = 4294967296 * dv [e0, e1, e2, e3, e4, e5, e6, e7] := by
    show 0 + 4294967296 * dv ([e0, e1, e2, e3, e4, e5, e6, e7] ++ [0]) = _
    rw [dv_0, Nat.zero_add]
  rw [h0]
  generalize dv [d0, d1, d2, d3, d4, d5, d6, d7] = x
  generalize dv [e0, e1, e2, e3, e4, e5, e6, e7] = y
  omega
theorem dv_n (d0 d1 d2 d3 d4 d5 d6 d7 e0 e1 e2 e3 e4 e5 e6 e7 : Nat) : dv [d0, d1, d2, d3, d4, d5, d6, d7, e0, e1, e2, e3, e4, e5, e6, e7] = dv [d0, d1, d2, d3, d4, d5, d6, d7] + dv [e0, e1, e2, e3, e4, e5, e6, e7] * M := by
  have h := dv_app [d0, d1, d2, d3, d4, d5, d6, d7] [e0, e1, e2, e3, e4, e5, e6, e7]
  rw [show ([d0, d1, d2, d3, d4, d5, d6, d7] : List Nat).length = 8 from rfl, show (4294967296 : Nat) ^ 8 = M by decide] at h
  rw [Nat.mul_comm]
  exact h
theorem dv_2 (d0 d1 d2 d3 d4 d5 d6 d7 a b : Nat) : dv ([d0, d1, d2, d3, d4, d5, d6, d7] ++ [a, b]) = dv [d0, d1, d2, d3, d4, d5, d6, d7] + (a + b * 4294967296) * M := by
  have h := dv_app [d0, d1, d2, d3, d4, d5, d6, d7] [a, b]
  rw [show ([d0, d1, d2, d3, d4, d5, d6, d7] : List Nat).length = 8 from rfl, show (4294967296 : Nat) ^ 8 = M by decide] at h
  rw [h, show dv [a, b] = a + b * 4294967296 by simp only [dv, Nat.mul_zero, Nat.add_zero]; rw [Nat.mul_comm], Nat.mul_comm]
def AllB : List Nat → Prop
  | [] => True
  | x :: l => x < 4294967296 ∧ AllB l
theorem dv_lt : ∀ l : List Nat, AllB l → dv l < 4294967296 ^ l.length
  | [], _ => by simp [dv]
  | x :: l, h => by
    have ih := dv_lt l h.2
    have hx := h.1
    show x + 4294967296 * dv l < 4294967296 ^ (l.length + 1)
    rw [Nat.pow_succ, Nat.mul_comm (4294967296 ^ l.length)]
    generalize 4294967296 ^ l.length = q at ih ⊢
    omega
theorem dv8_lt (d0 d1 d2 d3 d4 d5 d6 d7 : Nat) (h0 : d0 < 4294967296) (h1 : d1 < 4294967296) (h2 : d2 < 4294967296) (h3 : d3 < 4294967296) (h4 : d4 < 4294967296) (h5 : d5 < 4294967296) (h6 : d6 < 4294967296) (h7 : d7 < 4294967296) : dv [d0, d1, d2, d3, d4, d5, d6, d7] < M := by
  have h := dv_lt [d0, d1, d2, d3, d4, d5, d6, d7] ⟨h0, h1, h2, h3, h4, h5, h6, h7, trivial⟩
  rw [show ([d0, d1, d2, d3, d4, d5, d6, d7] : List Nat).length = 8 from rfl, show (4294967296 : Nat) ^ 8 = M by decide] at h
  exact h
/-- Sixteen digits, folded: eight digits and what is above. -/
theorem fold_dig {d : List Nat} (hd : Dg d) (hl : d.length = 16) : ∃ e0 e1 e2 e3 e4 e5 e6 e7 e8 e9 : Nat, (foS d 10).2 = [e0, e1, e2, e3, e4, e5, e6, e7, e8, e9] ∧ Dg [e0, e1, e2, e3, e4, e5, e6, e7, e8, e9] ∧ e8 + e9 * 4294967296 < 1099511627776 ∧
    (dv [e0, e1, e2, e3, e4, e5, e6, e7] + (e8 + e9 * 4294967296) * Gp) % Pm = dv d % Pm := by
  obtain ⟨h1, h2, h3, _, h5⟩ := foS_ok hd 10 (Nat.le_refl _)
  generalize (foS d 10).1 = c at h3 h5
  generalize (foS d 10).2 = e at h1 h2 h5 ⊢
  obtain ⟨d0, d1, d2, d3, d4, d5, d6, d7, b0, b1, b2, b3, b4, b5, b6, b7, rfl⟩ := len16 hl
  obtain ⟨e0, e1, e2, e3, e4, e5, e6, e7, e8, e9, rfl⟩ := len10 h1
  refine ⟨e0, e1, e2, e3, e4, e5, e6, e7, e8, e9, rfl, h2, ?_⟩
  rw [gs_n] at h5
  have l1 := dv8_lt d0 d1 d2 d3 d4 d5 d6 d7 (hd 0) (hd 1) (hd 2) (hd 3) (hd 4) (hd 5) (hd 6) (hd 7)
  have l2 := dv8_lt b0 b1 b2 b3 b4 b5 b6 b7 (hd 8) (hd 9) (hd 10) (hd 11) (hd 12) (hd 13) (hd 14) (hd 15)
  have e10 : dv [e0, e1, e2, e3, e4, e5, e6, e7, e8, e9] = dv [e0, e1, e2, e3, e4, e5, e6, e7] + (e8 + e9 * 4294967296) * M := dv_2 e0 e1 e2 e3 e4 e5 e6 e7 e8 e9
  rw [dv_n]
  generalize dv [d0, d1, d2, d3, d4, d5, d6, d7] = x at h5 l1 ⊢
  generalize dv [b0, b1, b2, b3, b4, b5, b6, b7] = y at h5 l2 ⊢
  rw [e10] at h5
  generalize dv [e0, e1, e2, e3, e4, e5, e6, e7] = u at h5 ⊢
  generalize e8 + e9 * 4294967296 = t at h5 ⊢
  have hc : c = 0 := by
    rw [show (4294967296 : Nat) ^ 10 = 2135987035920910082395021706169552114602704522356652769947041607822219725780640550022962086936576 by decide] at h5
    unfold M at *; omega
  rw [hc, Nat.mul_zero, Nat.add_zero] at h5
  refine ⟨by unfold M at *; omega, ?_⟩
  rw [← M_mod u t, h5]
  exact (M_mod x y).symm
theorem last_n {w q : Nat} (hw : w < M) (hq : q < 1099511627776 * 4294968273) : (w + q) / M ≤ 1 ∧ ((w + q) / M = 1 → ((w + q) % M + 4294968273) % M % Pm = (w + q) % Pm) ∧ (¬ (w + q) / M = 1 → (w + q) % M % Pm = (w + q) % Pm) := by
  unfold Pm M at *; refine ⟨?_, ?_, ?_⟩ <;> omega
theorem folded_s {d : List Nat} (hd : Dg d) (hl : d.length = 16) : m76 (d.map UInt64.ofNat) = some (wl (dv d % Pm)) := by
  refine (m76_eq _).trans ?_
  unfold b76
  obtain ⟨m, hm⟩ := fuel_ge 11 (by decide)
  obtain ⟨m5, hm5⟩ := fuel_ge 5 (by decide)
  have hf := fo_all hd (List.replicate 4 (0 : UInt64)) 10 m (Nat.le_refl _)
  have hl0 : l76_0 ((0 : UInt64), (0 : Int), d.map UInt64.ofNat, List.replicate 4 (0 : UInt64), [(0 : UInt64), (0 : UInt64), (0 : UInt64), (0 : UInt64), (0 : UInt64), (0 : UInt64), (0 : UInt64), (0 : UInt64), (0 : UInt64), (0 : UInt64)]) = some (.x (List.replicate 4 (0 : UInt64), (foS d 10).2.map UInt64.ofNat)) := by
    unfold l76_0; rw [hm]; exact hf
  obtain ⟨e0, e1, e2, e3, e4, e5, e6, e7, e8, e9, he, hE, ht, hv⟩ := fold_dig hd hl
  rw [he] at hl0
  refine bnd_ex' hl0 ?_
  refine Eq.trans (guard_if (by rfl) _) ?_
  have htop : UInt64.ofNat e8 + sh32 (UInt64.ofNat e9) = UInt64.ofNat (e8 + e9 * 4294967296) := by
    have q8 : e8 < 4294967296 := hE 8
    have q9 : e9 < 4294967296 := hE 9
    rw [shl32 q9, add_of (by omega)]
  have s := fun i hi f t w => pack_turn f t hE (i := i) hi (List.replicate 4 (0 : UInt64)) w
  have fin : ∀ f (t : UInt64) (z e w : List UInt64), k76_5 f (t, ((3 + 1 : Nat) : Int), z, e, w) = some (.x (t, z, w)) := fun f t z e w => rfl
  have hl5 : ∀ t : UInt64, l76_5 (t, (0 : Int), List.replicate 4 (0 : UInt64), [e0, e1, e2, e3, e4, e5, e6, e7, e8, e9].map UInt64.ofNat, [(0 : UInt64), (0 : UInt64), (0 : UInt64), (0 : UInt64)]) = some (.x (t, List.replicate 4 (0 : UInt64), [UInt64.ofNat (e0 + e1 * 4294967296), UInt64.ofNat (e2 + e3 * 4294967296), UInt64.ofNat (e4 + e5 * 4294967296), UInt64.ofNat (e6 + e7 * 4294967296)])) := fun t => by
    unfold l76_5
    rw [hm5, show m5 + 5 = ((((m5 + 1) + 1) + 1) + 1) + 1 from rfl, show (0 : Int) = ((0 : Nat) : Int) from rfl, itN_succ, s 0 (by decide), itN_succ, s 1 (by decide), itN_succ, s 2 (by decide), itN_succ, s 3 (by decide), itN_succ, fin]
    rfl
  refine bnd_ex' (hl5 _) ?_
  have b0 := hE 0; have b1 := hE 1; have b2 := hE 2; have b3 := hE 3; have b4 := hE 4; have b5 := hE 5; have b6 := hE 6; have b7 := hE 7
  simp only [List.getD_cons_zero, List.getD_cons_succ] at b0 b1 b2 b3 b4 b5 b6 b7
  have hW : [UInt64.ofNat (e0 + e1 * 4294967296), UInt64.ofNat (e2 + e3 * 4294967296), UInt64.ofNat (e4 + e5 * 4294967296), UInt64.ofNat (e6 + e7 * 4294967296)] = wl (dv [e0, e1, e2, e3, e4, e5, e6, e7]) := by
    rw [wl4, un _ (by omega), un _ (by omega), un _ (by omega), un _ (by omega)]
    congr 1
    simp only [dv]; omega
  have hWl := dv8_lt e0 e1 e2 e3 e4 e5 e6 e7 b0 b1 b2 b3 b4 b5 b6 b7
  generalize dv [e0, e1, e2, e3, e4, e5, e6, e7] = W at hW hWl hv
  have hq : (e8 + e9 * 4294967296) * Gp < 1099511627776 * 4294968273 := Nat.mul_lt_mul_of_pos_right ht (by decide)
  have htw := tw_s ht
  generalize e8 + e9 * 4294967296 = t at htop htw hv hq
  have hqM : t * Gp < M := Nat.lt_trans hq (by decide)
  obtain ⟨n1, n2, n3⟩ := last_n hWl hq
  have h8 : ∀ x : UInt64, x = UInt64.ofNat t → ∀ l, l = wl W → l76_8 (x, List.replicate 4 (0 : UInt64), l) = some (.n (UInt64.ofNat ((W + t * Gp) / M), List.replicate 4 (0 : UInt64), wl ((W + t * Gp) % M))) := fun x hx l hl => by
    subst hx hl
    refine (l76_8_eq _).trans ?_
    unfold a76_8
    refine bnd_ex' htw ?_
    refine bnd_ex' (more_s hWl hqM) ?_
    rfl
  refine bnd_ex' (h8 _ htop _ hW) ?_
  by_cases h : (W + t * Gp) / M = 1
  · refine Eq.trans (cnd_t ((one_c n1).trans (decide_eq_true h)) _ _) ?_
    have h4 : m73 (wl ((W + t * Gp) % M), [(4294968273 : UInt64), (0 : UInt64), (0 : UInt64), (0 : UInt64)]) = _ := (congrArg (fun l : List UInt64 => m73 (wl ((W + t * Gp) % M), l)) (wl_small (n := 4294968273))).trans (more_s (Nat.mod_lt _ M_pos) (by decide))
    refine bnd_ex' h4 ?_
    refine bnd_ex' (below_s (Nat.mod_lt _ M_pos)) ?_
    rw [← hv, ← n2 h]; rfl
  · refine Eq.trans (cnd_f ((one_c n1).trans (decide_eq_false h)) _ _) ?_
    refine bnd_ex' (below_s (Nat.mod_lt _ M_pos)) ?_
    rw [← hv, n3 h]
theorem Dg_hv (a : Nat) : Dg (hv a) := fun j => by
  have h0 := gw_lt a 0; have h1 := gw_lt a 1; have h2 := gw_lt a 2; have h3 := gw_lt a 3
  rcases Nat.lt_or_ge j 8 with h | h
  · rcases (show j = 0 ∨ j = 1 ∨ j = 2 ∨ j = 3 ∨ j = 4 ∨ j = 5 ∨ j = 6 ∨ j = 7 by omega) with rfl | rfl | rfl | rfl | rfl | rfl | rfl | rfl <;> (simp only [hv, List.getD_cons_zero, List.getD_cons_succ]; omega)
  · rw [List.getD_eq_getElem?_getD, List.getElem?_eq_none (by exact h)]; decide
theorem pv_hv {a : Nat} (ha : a < M) : pv (hv a) 8 = a := by
  obtain ⟨a0, a1, a2, a3, h0, h1, h2, h3, ea, wa⟩ := w4_parts a ha
  unfold hv
  rw [wa]
  simp only [gw, List.getD_cons_zero, List.getD_cons_succ, pv]
  rw [ea]
  omega
theorem ou_end (f : Int × List UInt64 × List UInt64 × List UInt64 × List UInt64 → Option (O3 Unit (List UInt64 × List UInt64) Unit)) (z x y w : List UInt64) : k44_1 f (((8 : Nat) : Int), z, x, y, w) = some (.x (z, w)) := rfl
theorem ou_all {xs ys : List Nat} (hx : Dg xs) (hy : Dg ys) (z : List UInt64) : ∀ (j m i : Nat), i + j = 8 →
    itN k44_1 (m + 1 + j) ((i : Int), z, xs.map UInt64.ofNat, ys.map UInt64.ofNat, (ouS xs ys i).map UInt64.ofNat) = some (.x (z, (ouS xs ys 8).map UInt64.ofNat))
  | 0, m, i, hi => by
    obtain rfl : i = 8 := hi
    rw [show m + 1 + 0 = m + 1 from rfl, itN_succ, ou_end]
  | j + 1, m, i, hi => by
    have h := ou_turn (itN k44_1 (m + 1 + j)) (xs := xs) (ys := ys) (i := i) (by omega) hx hy z
    have h2 := ou_all hx hy z j m (i + 1) (by omega)
    rw [show m + 1 + (j + 1) = (m + 1 + j) + 1 from rfl, itN_succ]
    exact h.trans h2
theorem rm0 (a b : Nat) (z : List UInt64) : l44_0 (wl a, wl b, z) = some (.n (z, (hv a).map UInt64.ofNat, (hv b).map UInt64.ofNat)) := by
  refine (l44_0_eq _).trans ?_
  unfold a44_0
  dsimp only
  rw [halves_s, bnd_s, halves_s, bnd_s]
theorem rm1 (a b : Nat) (z : List UInt64) : l44_1 ((0 : Int), z, (hv a).map UInt64.ofNat, (hv b).map UInt64.ofNat, [(0 : UInt64), 0, 0, 0, 0, 0, 0, 0, 0, 0, 0, 0, 0, 0, 0, 0]) = some (.x (z, (ouS (hv a) (hv b) 8).map UInt64.ofNat)) := by
  obtain ⟨m, hm⟩ := fuel_ge 9 (by decide)
  have ho := ou_all (Dg_hv a) (Dg_hv b) z 8 m 0 rfl
  unfold l44_1
  rw [hm]
  exact ho
theorem rmul_s {a b : Nat} (ha : a < M) (hb : b < M) : m44 (wl a, wl b) = some (wl ((a * b) % Pm)) := by
  refine (m44_eq _).trans ?_
  unfold b44
  dsimp only
  rw [rm0, bnd_s]
  dsimp only
  rw [rm1, bnd_s]
  dsimp only
  obtain ⟨k1, k2, _, k4⟩ := ouS_ok (Dg_hv a) (Dg_hv b) 8 (Nat.le_refl _)
  rw [folded_s k2 k1, bnd_s, k4, pv_hv ha, pv_hv hb]
theorem prod_s {a b : Nat} (ha : a < M) (hb : b < M) : m10 (wl a, wl b) = some true := by
  refine (m10_eq _).trans ?_
  unfold b10
  refine bnd_ex' alive_s ?_
  refine Eq.trans (cnd_t rfl _ _) ?_
  refine bnd_ex' (mul_s ha hb) ?_
  refine bnd_ex' (rmul_s ha hb) ?_
  exact congrArg some ((eq_wl lt_M lt_M).trans (by simp))
end Go.Proofs.Ythlbdpmnljcapaa.Q
