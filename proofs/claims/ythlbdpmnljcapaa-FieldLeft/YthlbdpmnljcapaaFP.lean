/-
  What package field's functions tell, in numbers.
-/
import Derived.Test.YthlbdpmnljcapaaQF
import Derived.Test.YthlbdpmnljcapaaFM
namespace Go.Proofs.Ythlbdpmnljcapaa.Q
open Go.RowKit

theorem inB_nat {i n : Nat} (h : i < n) : inB (i : Int) n = true := by
  unfold inB; simp; omega
theorem inR_succ {i : Nat} (h : i < 4096) : inR .i64 ((i : Int) + 1) = true := by
  unfold inR; simp; omega
theorem guard_if {β : Type} {b : Bool} (h : b = true) (k : Option β) : guard b k = k := by rw [h]; rfl
theorem cnd_t {β : Type} {b : Bool} (h : b = true) (x y : Option β) : cnd b x y = x := by rw [h]; rfl
theorem cnd_f {β : Type} {b : Bool} (h : b = false) (x y : Option β) : cnd b x y = y := by rw [h]; rfl
theorem u_eq {x y : UInt64} (h : x.toNat = y.toNat) : x = y := UInt64.toNat_inj.1 h
theorem u_of (x : UInt64) : UInt64.ofNat x.toNat = x := by simp
theorem wl_words {l : List UInt64} (h : l.length = 4) {n : Nat} (hv : val l = n) : l = wl n := by rw [← hv, wl_val h]
theorem val4 (a b c d : UInt64) : val [a, b, c, d] = a.toNat + 18446744073709551616 * (b.toNat + 18446744073709551616 * (c.toNat + 18446744073709551616 * d.toNat)) := rfl
theorem wl4 (a b c d : UInt64) : [a, b, c, d] = wl (a.toNat + 18446744073709551616 * (b.toNat + 18446744073709551616 * (c.toNat + 18446744073709551616 * d.toNat))) := wl_words rfl (val4 a b c d)
theorem wl_small {n : UInt64} : [n, 0, 0, 0] = wl n.toNat := wl_words rfl (by rw [val4]; simp)
theorem fFrom_s (n : UInt64) : fFrom n = some (wl n.toNat) := fFrom_eq n
theorem fAdd_s {a b : Nat} (ha : a < M) (hb : b < M) : fAdd (wl a, wl b) = some (wl ((a + b) % M), UInt64.ofNat ((a + b) / M)) := by rw [fAdd_eq]; simp only [val_wl ha, val_wl hb]
theorem fSub_s {a b : Nat} (ha : a < M) (hb : b < M) : fSub (wl a, wl b) = some (wl ((a + M - b) % M), UInt64.ofNat (if a < b then 1 else 0)) := by rw [fSub_eq]; simp only [val_wl ha, val_wl hb]
theorem fMul_s {a b : Nat} (ha : a < M) (hb : b < M) : fMul (wl a, wl b) = some (wl (a * b % M), wl (a * b / M)) := by rw [fMul_eq]; simp only [val_wl ha, val_wl hb]
theorem fShr_s {a : Nat} (ha : a < M) : fShr (wl a, (2 : Int)) = some (wl (a / 4)) := by rw [fShr_eq]; simp only [val_wl ha]; rfl
theorem fLen_s {a : Nat} (ha : a < M) : fLen (wl a) = some ((blen a : Nat) : Int) := by rw [fLen_eq]; simp only [val_wl ha]

theorem pr : Pm = 115792089237316195423570985008687907853269984665640564039457584007908834671663 := rfl
theorem prime_s : m33 () = some (wl Pm) := by
  rw [m33_eq]; unfold b33
  rw [fFrom_s, bnd_s, show ([(0 : UInt64), 0, 0, 0]) = wl 0 from wl_small (n := 0)]
  have h : (4294968273 : UInt64).toNat = 4294968273 := rfl
  rw [h, fSub_s (by decide) (by decide), bnd_s]
  rfl
theorem reduce_s {a : Nat} (ha : a < M) : m35 (wl a) = some (wl (a % Pm)) := by
  rw [m35_eq]; unfold b35
  rw [l35_0_eq]; unfold a35_0
  have h : (4294968273 : UInt64).toNat = Gp := rfl
  rw [fFrom_s, bnd_s, h, fAdd_s ha (by decide), bnd_s, bnd_s]
  simp only
  have hr := red_spec ha
  have hlt : (a + Gp) / M < 18446744073709551616 := by unfold M Gp at *; omega
  by_cases h0 : (a + Gp) / M = 0
  · rw [cnd_t (by rw [h0]; rfl)]
    rw [if_pos h0] at hr; rw [← hr]
  · rw [cnd_f (by
      rw [decide_eq_false]
      intro h1
      have := congrArg UInt64.toNat h1
      rw [un _ hlt] at this
      exact h0 this)]
    rw [if_neg h0] at hr; rw [← hr]

/-! plusGaps -/
theorem pg_n (x y t : Nat) (hx : x < 18446744073709551616) (hy : y < 18446744073709551616) (ht : t ≤ 4294968273) :
    x * 4294968273 / 18446744073709551616 < 18446744073709551616 ∧ (x * 4294968273 % 18446744073709551616 + y) / 18446744073709551616 < 18446744073709551616 ∧ ((x * 4294968273 % 18446744073709551616 + y) % 18446744073709551616 + t) / 18446744073709551616 < 18446744073709551616 ∧ (x * 4294968273 + y + t) / 18446744073709551616 ≤ 4294968273 ∧
    ((x * 4294968273 / 18446744073709551616 + (x * 4294968273 % 18446744073709551616 + y) / 18446744073709551616) % 18446744073709551616 + ((x * 4294968273 % 18446744073709551616 + y) % 18446744073709551616 + t) / 18446744073709551616) % 18446744073709551616 = (x * 4294968273 + y + t) / 18446744073709551616 ∧
    ((x * 4294968273 % 18446744073709551616 + y) % 18446744073709551616 + t) % 18446744073709551616 = (x * 4294968273 + y + t) % 18446744073709551616 := by
  obtain ⟨p, hp⟩ : ∃ p, x * 4294968273 = p := ⟨_, rfl⟩
  have hp2 : p ≤ 18446744073709551615 * 4294968273 := by omega
  rw [hp]
  clear hp hx
  refine ⟨?_, ?_, ?_, ?_, ?_, ?_⟩ <;> omega
theorem pg_step (f : UInt64 × Int × List UInt64 × List UInt64 × List UInt64 → Option (O3 Unit (UInt64 × List UInt64 × List UInt64) Unit)) (t : UInt64) (ht : t.toNat ≤ 4294968273) (i : Nat) (hi : i < 4) (acc n z : List UInt64) :
    k89_0 f (t, (i : Int), acc, n, z) = f (UInt64.ofNat (((n.getD i 0).toNat * 4294968273 + (acc.getD i 0).toNat + t.toNat) / 18446744073709551616), ((i + 1 : Nat) : Int), acc.set i (UInt64.ofNat (((n.getD i 0).toNat * 4294968273 + (acc.getD i 0).toNat + t.toNat) % 18446744073709551616)), n, z) := by
  unfold k89_0
  simp only
  rw [cnd_t (by simp; omega), guard_if (inB_nat hi), fMul64_eq, bnd_s, guard_if (inB_nat hi), fAdd64_eq, guard_if (by rfl), bnd_s, fAdd64_eq, guard_if (by rfl), bnd_s, guard_if (inB_nat hi), guard_if (inR_succ (by omega))]
  simp only [Int.toNat_natCast]
  generalize n.getD i 0 = x
  generalize acc.getD i 0 = y
  have hx := ut x
  have hy := ut y
  have hg : (4294968273 : UInt64).toNat = 4294968273 := rfl
  have h0 : (0 : UInt64).toNat = 0 := rfl
  simp only [hg, h0, Nat.add_zero]
  obtain ⟨k0, k1, k2, k3, k4, k5⟩ := pg_n x.toNat y.toNat t.toNat hx hy ht
  rw [un (x.toNat * 4294968273 % 18446744073709551616) (Nat.mod_lt _ (by decide)), un ((x.toNat * 4294968273 % 18446744073709551616 + y.toNat) % 18446744073709551616) (Nat.mod_lt _ (by decide))]
  have E1 : UInt64.ofNat (x.toNat * 4294968273 / 18446744073709551616) + UInt64.ofNat ((x.toNat * 4294968273 % 18446744073709551616 + y.toNat) / 18446744073709551616) + UInt64.ofNat (((x.toNat * 4294968273 % 18446744073709551616 + y.toNat) % 18446744073709551616 + t.toNat) / 18446744073709551616) = UInt64.ofNat ((x.toNat * 4294968273 + y.toNat + t.toNat) / 18446744073709551616) := by
    refine u_eq ?_
    rw [UInt64.toNat_add, UInt64.toNat_add, un _ k0, un _ k1, un _ k2, un _ (Nat.lt_of_le_of_lt k3 (by decide))]
    exact k4
  have E2 := k5
  rw [E1, E2]
  rfl
theorem gaps_s {a n : Nat} (ha : a < M) (hn : n < M) : m89 (wl a, wl n) = some (wl ((a + n * Gp) % M), UInt64.ofNat ((a + n * Gp) / M)) := by
  rw [m89_eq]; unfold b89 l89_0
  obtain ⟨m, hm⟩ := fuel_ge 5 (by decide)
  obtain ⟨a0, a1, a2, a3, la⟩ := len4 (wl_len a)
  obtain ⟨n0, n1, n2, n3, ln⟩ := len4 (wl_len n)
  have va : a = a0.toNat + 18446744073709551616 * (a1.toNat + 18446744073709551616 * (a2.toNat + 18446744073709551616 * a3.toNat)) := by rw [← val4, ← la, val_wl ha]
  have vn : n = n0.toNat + 18446744073709551616 * (n1.toNat + 18446744073709551616 * (n2.toNat + 18446744073709551616 * n3.toNat)) := by rw [← val4, ← ln, val_wl hn]
  have b0 := ut a0; have b1 := ut a1; have b2 := ut a2; have b3 := ut a3
  have c0 := ut n0; have c1 := ut n1; have c2 := ut n2; have c3 := ut n3
  simp only [la, ln, hm]
  obtain ⟨s0, hs0⟩ : ∃ s, n0.toNat * 4294968273 + a0.toNat + 0 = s := ⟨_, rfl⟩
  obtain ⟨s1, hs1⟩ : ∃ s, n1.toNat * 4294968273 + a1.toNat + s0 / 18446744073709551616 = s := ⟨_, rfl⟩
  obtain ⟨s2, hs2⟩ : ∃ s, n2.toNat * 4294968273 + a2.toNat + s1 / 18446744073709551616 = s := ⟨_, rfl⟩
  obtain ⟨s3, hs3⟩ : ∃ s, n3.toNat * 4294968273 + a3.toNat + s2 / 18446744073709551616 = s := ⟨_, rfl⟩
  have q0 : s0 / 18446744073709551616 ≤ 4294968273 := by omega
  have q1 : s1 / 18446744073709551616 ≤ 4294968273 := by omega
  have q2 : s2 / 18446744073709551616 ≤ 4294968273 := by omega
  have q3 : s3 / 18446744073709551616 ≤ 4294968273 := by omega
  have u0 : (UInt64.ofNat (s0 / 18446744073709551616)).toNat = s0 / 18446744073709551616 := un _ (by omega)
  have u1 : (UInt64.ofNat (s1 / 18446744073709551616)).toNat = s1 / 18446744073709551616 := un _ (by omega)
  have u2 : (UInt64.ofNat (s2 / 18446744073709551616)).toNat = s2 / 18446744073709551616 := un _ (by omega)
  have st0 := pg_step (itN k89_0 (m + 4)) 0 (by decide) 0 (by decide) [a0, a1, a2, a3] [n0, n1, n2, n3] (List.replicate 4 0)
  simp only [List.getD_cons_zero, List.set_cons_zero, show (0 : UInt64).toNat = 0 from rfl, hs0] at st0
  have st1 := pg_step (itN k89_0 (m + 3)) (UInt64.ofNat (s0 / 18446744073709551616)) (by rw [u0]; exact q0) 1 (by decide) [UInt64.ofNat (s0 % 18446744073709551616), a1, a2, a3] [n0, n1, n2, n3] (List.replicate 4 0)
  simp only [List.getD_cons_zero, List.getD_cons_succ, List.set_cons_zero, List.set_cons_succ, u0, hs1] at st1
  have st2 := pg_step (itN k89_0 (m + 2)) (UInt64.ofNat (s1 / 18446744073709551616)) (by rw [u1]; exact q1) 2 (by decide) [UInt64.ofNat (s0 % 18446744073709551616), UInt64.ofNat (s1 % 18446744073709551616), a2, a3] [n0, n1, n2, n3] (List.replicate 4 0)
  simp only [List.getD_cons_zero, List.getD_cons_succ, List.set_cons_zero, List.set_cons_succ, u1, hs2] at st2
  have st3 := pg_step (itN k89_0 (m + 1)) (UInt64.ofNat (s2 / 18446744073709551616)) (by rw [u2]; exact q2) 3 (by decide) [UInt64.ofNat (s0 % 18446744073709551616), UInt64.ofNat (s1 % 18446744073709551616), UInt64.ofNat (s2 % 18446744073709551616), a3] [n0, n1, n2, n3] (List.replicate 4 0)
  simp only [List.getD_cons_zero, List.getD_cons_succ, List.set_cons_zero, List.set_cons_succ, u2, hs3] at st3
  rw [show m + 5 = (m + 4) + 1 from rfl, itN_succ, show ((0 : Int)) = ((0 : Nat) : Int) from rfl, st0, itN_succ, st1, itN_succ, st2, itN_succ, st3, itN_succ]
  have fin : ∀ f (t : UInt64) (acc n z : List UInt64), k89_0 f (t, ((3 + 1 : Nat) : Int), acc, n, z) = some (.x (t, acc, z)) := fun f t acc n z => rfl
  rw [fin, bnd_s]
  simp only
  have key : a + n * Gp = (s0 % 18446744073709551616 + 18446744073709551616 * (s1 % 18446744073709551616 + 18446744073709551616 * (s2 % 18446744073709551616 + 18446744073709551616 * (s3 % 18446744073709551616)))) + M * (s3 / 18446744073709551616) := by
    rw [va, vn]; unfold Gp M; omega
  have hlt : s0 % 18446744073709551616 + 18446744073709551616 * (s1 % 18446744073709551616 + 18446744073709551616 * (s2 % 18446744073709551616 + 18446744073709551616 * (s3 % 18446744073709551616))) < M := by unfold M; omega
  rw [key, Nat.add_mul_mod_self_left, Nat.mod_eq_of_lt hlt, Nat.add_mul_div_left _ _ (by decide : 0 < M), Nat.div_eq_of_lt hlt, Nat.zero_add, wl4, un _ (Nat.mod_lt _ (by decide)), un _ (Nat.mod_lt _ (by decide)), un _ (Nat.mod_lt _ (by decide)), un _ (Nat.mod_lt _ (by decide))]
end Go.Proofs.Ythlbdpmnljcapaa.Q
