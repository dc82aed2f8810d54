/-
  Contracts of the document's twice, Bit, Cmp, Len.
  Conditions: numbers below 2^256.
-/
import Derived.Test.YtpfoeeiacfadfaaV5Z
import Derived.Test.YtpfoeeiacfadfaaV7
import Derived.Test.YtpfoeeiacfadfaaMemZ
import Derived.Test.YtpfoeeiacfadfaaWdZ
namespace Go.Proofs.Ytpfoeeiacfadfaa
open Go.RowKit

theorem exec_mulM {P : Program} {ρ : Operand → Value} {o : Oper} {w : World} (x y : Operand) (T U : TypeId) (ho : o.op = .binOp .mul T x y U) (X Y Z : Nat) (hZ : X * Y % 18446744073709551616 = Z) (hx : ρ x = .int .u64 (X : Int)) (hy : ρ y = .int .u64 (Y : Int)) :
    (execOp ρ o).run P w = .ok (.value (.int .u64 (Z : Int))) w := exec_mulW x y T U ho X Y Z (by rw [← hZ, ← Int.natCast_mul]; rfl) hx hy
theorem exec_addM {P : Program} {ρ : Operand → Value} {o : Oper} {w : World} (x y : Operand) (T U : TypeId) (ho : o.op = .binOp .add T x y U) (X Y Z : Nat) (hZ : (X + Y) % 18446744073709551616 = Z) (hx : ρ x = .int .u64 (X : Int)) (hy : ρ y = .int .u64 (Y : Int)) :
    (execOp ρ o).run P w = .ok (.value (.int .u64 (Z : Int))) w := exec_addW x y T U ho X Y Z (by rw [← hZ, ← Int.natCast_add]; rfl) hx hy
set_option maxHeartbeats 2000000 in
theorem twice_any (a b : Nat) (ha : a < M) (hb : b ≤ 1) (w : World) :
    Calls Try.prog 74 #[wv a, .int .u64 (b : Int)] w fun e w' => e = .returned (.tuple #[wv ((2 * a + b) % M), .int .u64 (((2 * a + b) / M : Nat) : Int)]) ∧ Below w.heap.size w w' := by
  obtain ⟨hw, hc⟩ := tw_words a b ha hb
  obtain ⟨a0, e0⟩ : ∃ x, gw (w4 a) 0 = x := ⟨_, rfl⟩
  obtain ⟨a1, e1⟩ : ∃ x, gw (w4 a) 1 = x := ⟨_, rfl⟩
  obtain ⟨a2, e2⟩ : ∃ x, gw (w4 a) 2 = x := ⟨_, rfl⟩
  obtain ⟨a3, e3⟩ : ∃ x, gw (w4 a) 3 = x := ⟨_, rfl⟩
  rw [e0, e1, e2, e3] at hw
  rw [e3] at hc
  obtain ⟨m0, f0⟩ : ∃ x, a0 * 2 % 18446744073709551616 = x := ⟨_, rfl⟩
  obtain ⟨m1, f1⟩ : ∃ x, a1 * 2 % 18446744073709551616 = x := ⟨_, rfl⟩
  obtain ⟨m2, f2⟩ : ∃ x, a2 * 2 % 18446744073709551616 = x := ⟨_, rfl⟩
  obtain ⟨m3, f3⟩ : ∃ x, a3 * 2 % 18446744073709551616 = x := ⟨_, rfl⟩
  obtain ⟨q0, g0⟩ : ∃ x, a0 / 9223372036854775808 = x := ⟨_, rfl⟩
  obtain ⟨q1, g1⟩ : ∃ x, a1 / 9223372036854775808 = x := ⟨_, rfl⟩
  obtain ⟨q2, g2⟩ : ∃ x, a2 / 9223372036854775808 = x := ⟨_, rfl⟩
  rw [f0, f1, f2, f3, g0, g1, g2] at hw
  obtain ⟨s0, h0⟩ : ∃ x, (m0 + b) % 18446744073709551616 = x := ⟨_, rfl⟩
  obtain ⟨s1, h1⟩ : ∃ x, (m1 + q0) % 18446744073709551616 = x := ⟨_, rfl⟩
  obtain ⟨s2, h2⟩ : ∃ x, (m2 + q1) % 18446744073709551616 = x := ⟨_, rfl⟩
  obtain ⟨s3, h3⟩ : ∃ x, (m3 + q2) % 18446744073709551616 = x := ⟨_, rfl⟩
  rw [h0, h1, h2, h3] at hw
  obtain ⟨N, eN⟩ : ∃ x, (2 * a + b) % M = x := ⟨_, rfl⟩
  obtain ⟨c, ec⟩ : ∃ x, (2 * a + b) / M = x := ⟨_, rfl⟩
  rw [eN] at hw
  rw [ec] at hc
  rw [eN, ec]
  have E0 : Hid (gw (w4 a) 0 = a0) := e0
  have L0 : Hid (a0 < 18446744073709551616) := e0 ▸ gw_lt a 0
  have M0 : Hid (a0 * 2 % 18446744073709551616 = m0) := f0
  have E1 : Hid (gw (w4 a) 1 = a1) := e1
  have L1 : Hid (a1 < 18446744073709551616) := e1 ▸ gw_lt a 1
  have M1 : Hid (a1 * 2 % 18446744073709551616 = m1) := f1
  have E2 : Hid (gw (w4 a) 2 = a2) := e2
  have L2 : Hid (a2 < 18446744073709551616) := e2 ▸ gw_lt a 2
  have M2 : Hid (a2 * 2 % 18446744073709551616 = m2) := f2
  have E3 : Hid (gw (w4 a) 3 = a3) := e3
  have L3 : Hid (a3 < 18446744073709551616) := e3 ▸ gw_lt a 3
  have M3 : Hid (a3 * 2 % 18446744073709551616 = m3) := f3
  have Q0 : Hid (a0 / 9223372036854775808 = q0) := g0
  have Q1 : Hid (a1 / 9223372036854775808 = q1) := g1
  have Q2 : Hid (a2 / 9223372036854775808 = q2) := g2
  have S0 : Hid ((m0 + b) % 18446744073709551616 = s0) := h0
  have S1 : Hid ((m1 + q0) % 18446744073709551616 = s1) := h1
  have S2 : Hid ((m2 + q1) % 18446744073709551616 = s2) := h2
  have S3 : Hid ((m3 + q2) % 18446744073709551616 = s3) := h3
  have FC : Hid (a3 / 9223372036854775808 = c) := hc
  have HW : Hid (w4 N = [s0, s1, s2, s3]) := hw
  have HH : Hid (9223372036854775808 ≠ 0) := by show _ ≠ _; decide
  clear e0 e1 e2 e3 f0 f1 f2 f3 g0 g1 g2 h0 h1 h2 h3 eN ec hc hw ha hb
  have m := Mem.start w
  go_enter Try.func74, Try.ntmps74
  go_wp2_with ((first
    | (refine W.box m rfl (.tmp 0) rfl a rfl ?_; clear m; intro g2 wx2 m)
    | (refine W.alloc m rfl rfl 4 rfl ?_; clear m; intro g4 wx4 m)
    | (refine W.idx rfl (.tmp 2) (.const (.int .i64 3)) rfl g2 3 .i64 3 rfl (by decide) rfl rfl ?_)
    | (refine W.get m rfl (.tmp 8) rfl 1 3 a3 rfl (by decide) E3.out rfl ?_)
    | (refine wpList_val rfl (.int .u64 (c : Int)) (exec_quoU (.tmp 9) (.const (.int .u64 9223372036854775808)) _ _ rfl a3 9223372036854775808 c FC.out L3.out HH.out rfl rfl) ?_)
    | (refine W.idx rfl (.tmp 2) (.const (.int .i64 0)) rfl g2 0 .i64 0 rfl (by decide) rfl rfl ?_)
    | (refine W.get m rfl (.tmp 11) rfl 1 0 a0 rfl (by decide) E0.out rfl ?_)
    | (refine wpList_val rfl (.int .u64 (m0 : Int)) (exec_mulM (.tmp 12) (.const (.int .u64 2)) _ _ rfl a0 2 m0 M0.out rfl rfl) ?_)
    | (refine wpList_val rfl (.int .u64 (s0 : Int)) (exec_addM (.tmp 13) (.tmp 14) _ _ rfl m0 b s0 S0.out rfl rfl) ?_)
    | (refine W.idx rfl (.tmp 2) (.const (.int .i64 1)) rfl g2 1 .i64 1 rfl (by decide) rfl rfl ?_)
    | (refine W.get m rfl (.tmp 16) rfl 1 1 a1 rfl (by decide) E1.out rfl ?_)
    | (refine wpList_val rfl (.int .u64 (m1 : Int)) (exec_mulM (.tmp 17) (.const (.int .u64 2)) _ _ rfl a1 2 m1 M1.out rfl rfl) ?_)
    | (refine W.idx rfl (.tmp 2) (.const (.int .i64 0)) rfl g2 0 .i64 0 rfl (by decide) rfl rfl ?_)
    | (refine W.get m rfl (.tmp 19) rfl 1 0 a0 rfl (by decide) E0.out rfl ?_)
    | (refine wpList_val rfl (.int .u64 (q0 : Int)) (exec_quoU (.tmp 20) (.const (.int .u64 9223372036854775808)) _ _ rfl a0 9223372036854775808 q0 Q0.out L0.out HH.out rfl rfl) ?_)
    | (refine wpList_val rfl (.int .u64 (s1 : Int)) (exec_addM (.tmp 18) (.tmp 21) _ _ rfl m1 q0 s1 S1.out rfl rfl) ?_)
    | (refine W.idx rfl (.tmp 2) (.const (.int .i64 2)) rfl g2 2 .i64 2 rfl (by decide) rfl rfl ?_)
    | (refine W.get m rfl (.tmp 23) rfl 1 2 a2 rfl (by decide) E2.out rfl ?_)
    | (refine wpList_val rfl (.int .u64 (m2 : Int)) (exec_mulM (.tmp 24) (.const (.int .u64 2)) _ _ rfl a2 2 m2 M2.out rfl rfl) ?_)
    | (refine W.idx rfl (.tmp 2) (.const (.int .i64 1)) rfl g2 1 .i64 1 rfl (by decide) rfl rfl ?_)
    | (refine W.get m rfl (.tmp 26) rfl 1 1 a1 rfl (by decide) E1.out rfl ?_)
    | (refine wpList_val rfl (.int .u64 (q1 : Int)) (exec_quoU (.tmp 27) (.const (.int .u64 9223372036854775808)) _ _ rfl a1 9223372036854775808 q1 Q1.out L1.out HH.out rfl rfl) ?_)
    | (refine wpList_val rfl (.int .u64 (s2 : Int)) (exec_addM (.tmp 25) (.tmp 28) _ _ rfl m2 q1 s2 S2.out rfl rfl) ?_)
    | (refine W.idx rfl (.tmp 2) (.const (.int .i64 3)) rfl g2 3 .i64 3 rfl (by decide) rfl rfl ?_)
    | (refine W.get m rfl (.tmp 30) rfl 1 3 a3 rfl (by decide) E3.out rfl ?_)
    | (refine wpList_val rfl (.int .u64 (m3 : Int)) (exec_mulM (.tmp 31) (.const (.int .u64 2)) _ _ rfl a3 2 m3 M3.out rfl rfl) ?_)
    | (refine W.idx rfl (.tmp 2) (.const (.int .i64 2)) rfl g2 2 .i64 2 rfl (by decide) rfl rfl ?_)
    | (refine W.get m rfl (.tmp 33) rfl 1 2 a2 rfl (by decide) E2.out rfl ?_)
    | (refine wpList_val rfl (.int .u64 (q2 : Int)) (exec_quoU (.tmp 34) (.const (.int .u64 9223372036854775808)) _ _ rfl a2 9223372036854775808 q2 Q2.out L2.out HH.out rfl rfl) ?_)
    | (refine wpList_val rfl (.int .u64 (s3 : Int)) (exec_addM (.tmp 32) (.tmp 35) _ _ rfl m3 q2 s3 S3.out rfl rfl) ?_)
    | (refine W.build4 rfl (.tmp 15) (.tmp 22) (.tmp 29) (.tmp 36) rfl N s0 s1 s2 s3 HW.out rfl rfl rfl rfl ?_)
    | (refine W.alloc m rfl rfl 7 rfl ?_; clear m; intro g7 wx7 m)
    | (refine W.store m rfl (.tmp 7) (.tmp 37) rfl rfl 0 N rfl (w4_length _) rfl rfl ?_; clear m; intro wx101 m)
    | (refine W.load m rfl (.tmp 7) rfl 0 rfl rfl ?_)
    | (refine W.store m rfl (.tmp 4) (.tmp 38) rfl rfl 1 N rfl (w4_length _) rfl rfl ?_; clear m; intro wx102 m)); try simp only [Act.put, List.setIfInBounds_toArray, List.set_cons_succ, List.set_cons_zero])
  refine bodyPost_ret (results_arr_tmp Try.aw Try.results74 _ wx102 g4 (c64 (w4 N)) (wl N) rfl (m.get 1 rfl)) rfl ⟨rfl, m.below⟩

set_option maxHeartbeats 1000000 in
theorem bit_any (a i : Nat) (ha : a < M) (hi : i < 256) (w : World) :
    Calls Try.prog 75 #[wv a, .int .i64 (i : Int)] w fun e w' => e = .returned (.int .u64 ((a / 2 ^ i % 2 : Nat) : Int)) ∧ Below w.heap.size w w' := by
  have hb := bit_word a i ha hi
  obtain ⟨q, eq⟩ : ∃ x, i / 64 = x := ⟨_, rfl⟩
  obtain ⟨r, er⟩ : ∃ x, i % 64 = x := ⟨_, rfl⟩
  rw [eq, er] at hb
  rw [← hb]
  have hq4 : q < 4 := by omega
  have hr : r < 64 := by omega
  obtain ⟨x, ex⟩ : ∃ x, gw (w4 a) q = x := ⟨_, rfl⟩
  have hx : x < 18446744073709551616 := ex ▸ gw_lt a q
  rw [ex]
  obtain ⟨p, ep⟩ : ∃ x, 2 ^ r = x := ⟨_, rfl⟩
  rw [ep]
  obtain ⟨y, ey⟩ : ∃ v, x / p = v := ⟨_, rfl⟩
  rw [ey]
  obtain ⟨z, ez⟩ : ∃ v, y % 2 = v := ⟨_, rfl⟩
  rw [ez]
  have hp : 2 ^ r < 18446744073709551616 := Nat.pow_lt_pow_right (by decide) hr
  have Q : Hid (i / 64 = q) := eq
  have R : Hid (i % 64 = r) := er
  have X : Hid (gw (w4 a) q = x) := ex
  have LX : Hid (x < 18446744073709551616) := hx
  have PP : Hid (1 * 2 ^ r % 18446744073709551616 = p) := by show _ = _; rw [Nat.one_mul, Nat.mod_eq_of_lt hp, ep]
  have P0 : Hid (p ≠ 0) := by show _ ≠ _; rw [← ep]; exact Nat.ne_of_gt (Nat.two_pow_pos r)
  have LR : Hid (r ≤ 64) := by show _ ≤ _; omega
  have LI : Hid (i < 9223372036854775808) := by show _ < _; omega
  have HH : Hid (64 ≠ 0) := by show _ ≠ _; decide
  have H2 : Hid (2 ≠ 0) := by show _ ≠ _; decide
  have Y : Hid (x / p = y) := ey
  have Z : Hid (y % 2 = z) := ez
  clear hb eq er ex hx ep ey ez hp ha hi
  have m := Mem.start w
  go_enter Try.func75, Try.ntmps75
  go_wp2_with ((first
    | (refine W.box m rfl (.tmp 0) rfl a rfl ?_; clear m; intro g2 wx2 m)
    | (refine wpList_val rfl (.int .i64 (q : Int)) (exec_quoN (.tmp 5) (.const (.int .i64 64)) _ _ rfl i 64 q Q.out LI.out HH.out rfl rfl) ?_)
    | (refine W.idx rfl (.tmp 2) (.tmp 6) rfl g2 q .i64 q rfl hq4 rfl rfl ?_)
    | (refine W.get m rfl (.tmp 7) rfl 0 q x rfl hq4 X.out rfl ?_)
    | (refine wpList_val rfl (.int .i64 (r : Int)) (exec_remN (.tmp 9) (.const (.int .i64 64)) _ _ rfl i 64 r R.out HH.out .i64 rfl rfl) ?_)
    | (refine wpList_val rfl (.int .u64 (p : Int)) (exec_shlZ (.const (.int .u64 1)) (.tmp 11) _ _ rfl 1 r p PP.out .u64 r rfl LR.out rfl rfl) ?_)
    | (refine wpList_val rfl (.int .u64 (y : Int)) (exec_quoU (.tmp 8) (.tmp 12) _ _ rfl x p y Y.out LX.out P0.out rfl rfl) ?_)
    | (refine wpList_val rfl (.int .u64 (z : Int)) (exec_remN (.tmp 13) (.const (.int .u64 2)) _ _ rfl y 2 z Z.out H2.out .u64 rfl rfl) ?_)); try simp only [Act.put, List.setIfInBounds_toArray, List.set_cons_succ, List.set_cons_zero])
  go_ret
  exact ⟨rfl, m.below⟩

set_option maxHeartbeats 1000000 in
theorem rlen_any (a : Nat) (ha : a < M) (w : World) :
    Calls Try.prog 60 #[wv a] w fun e w' => e = .returned (.int .i64 (blen a : Nat)) ∧ Below w.heap.size w w' := by
  have HB : Hid (∀ (i : Nat), i < 256 → ∀ w, Calls Try.prog 75 #[wv a, .int .i64 (i : Int)] w fun e w' => e = .returned (.int .u64 ((a / 2 ^ i % 2 : Nat) : Int)) ∧ Below w.heap.size w w') := fun i hi w => bit_any a i ha hi w
  have HM : Hid (a < M) := ha
  have HL : Hid (∀ n, n < 256 → 2 ^ n ≤ a → a < 2 ^ (n + 1) → blen a = n + 1) := fun n hn h1 h2 => blen_of a n ha h1 h2
  have HZ : Hid (a < 1 → blen a = 0) := fun h => by obtain rfl : a = 0 := by omega
                                                    exact blen_zero
  obtain ⟨R, hR⟩ : ∃ R, blen a = R := ⟨_, rfl⟩
  rw [hR] at HL HZ ⊢
  clear ha hR
  have m := Mem.start w
  go_enter Try.func60, Try.ntmps60
  go_wp2_with ((first
    | (refine W.box m rfl (.tmp 0) rfl a rfl ?_; clear m; intro g1 wx1 m)); try simp only [Act.put, List.setIfInBounds_toArray, List.set_cons_succ, List.set_cons_zero])
  go_loopw [3] (fun n wr => ∃ k : Nat, k ≤ 256 ∧ n = .int .i64 (k : Int) ∧ a < 2 ^ k ∧ Mem w wr [⟨g1, 24, c64 (w4 a)⟩]) (fun n _ => (intOf n).toNat)
  case atStart => exact ⟨256, by omega, rfl, HM.out, m⟩
  case round =>
    clear m
    obtain ⟨k, hk, rfl, hak, m⟩ := hrel
    rcases k with _ | n
    · have HR : Hid (R = 0) := HZ.out (by simpa using hak)
      clear hak
      go_wp2
      go_ret
      exact ⟨by rw [HR.out]; rfl, m.below⟩
    · obtain ⟨h1, h2⟩ := len_step a n hak
      have hb := HB.out n (by omega)
      obtain ⟨z, hz⟩ : ∃ z, a / 2 ^ n % 2 = z := ⟨_, rfl⟩
      rw [hz] at h1 h2 hb
      have HBn : Hid (∀ w, Calls Try.prog 75 #[wv a, .int .i64 (n : Int)] w fun e w' => e = .returned (.int .u64 (z : Int)) ∧ Below w.heap.size w w') := hb
      have hn : n < 256 := by omega
      by_cases h0 : z = 0
      · have hlt : Hid (a < 2 ^ n) := h1 h0
        subst h0
        clear h1 h2 hb hz hak
        go_wp2_with ((first
          | (refine wpList_valG rfl (wv a) (W.xload m (Gr.refl _) (.tmp 1) rfl 0 rfl rfl) ?_)
          | (go_at_call 75; refine (HBn.out _).mono ?_; rintro e wx9 ⟨rfl, b9⟩; replace m := m.gr b9; clear b9)); try simp only [Act.put, List.setIfInBounds_toArray, List.set_cons_succ, List.set_cons_zero])
        go_roundw
        case rel => exact ⟨n, by omega, by go_num, hlt.out, m⟩
        case measure => simp [intOf]
      · have HR : Hid (R = n + 1) := HL.out n hn (h2 h0) hak
        have hz1 : ((z : Int) == 0) = false := by simp; omega
        clear h1 h2 hb hz hak h0
        go_wp2_with ((first
          | (refine wpList_valG rfl (wv a) (W.xload m (Gr.refl _) (.tmp 1) rfl 0 rfl rfl) ?_)
          | (go_at_call 75; refine (HBn.out _).mono ?_; rintro e wx9 ⟨rfl, b9⟩; replace m := m.gr b9; clear b9)); try simp only [Act.put, List.setIfInBounds_toArray, List.set_cons_succ, List.set_cons_zero])
        go_ret
        exact ⟨by rw [HR.out]; congr 2, m.below⟩

theorem exec_lssU {P : Program} {ρ : Operand → Value} {o : Oper} {w : World} (x y : Operand) (T U : TypeId) (ho : o.op = .binOp .lss T x y U) (X Y : Nat) (b : Bool) (hb : decide (X < Y) = b) (k : IntKind) (hx : ρ x = .int k (X : Int)) (hy : ρ y = .int k (Y : Int)) :
    (execOp ρ o).run P w = .ok (.value (.bool b)) w := by
  subst hb
  unfold execOp
  simp only [ho, hx, hy, Sem.run_bind, run_eqGuard_no .lss (by decide), Result.andThen_ok, binOp, Op.intCmp, ne_eq, not_true_eq_false, if_false, Sem.run_pure, Int.ofNat_lt]

set_option maxHeartbeats 1000000 in
theorem rcmp_any (a b : Nat) (ha : a < M) (hb : b < M) (w : World) :
    Calls Try.prog 57 #[wv a, wv b] w fun e w' => e = .returned (.int .i64 (cmpN a b)) ∧ Below w.heap.size w w' := by
  have HC : Hid (∀ j, j < 4 → (∀ i, j < i → i < 4 → gw (w4 a) i = gw (w4 b) i) → (gw (w4 a) j < gw (w4 b) j → cmpN a b = -1) ∧ (gw (w4 b) j < gw (w4 a) j → cmpN a b = 1)) := fun j hj hz => by
    obtain ⟨h1, h2⟩ := cmp_word a b j ha hb hj hz
    refine ⟨fun h => ?_, fun h => ?_⟩
    · have := h1 h; unfold cmpN; rw [if_neg (by omega), if_pos this]
    · have := h2 h; unfold cmpN; rw [if_neg (by omega), if_neg (by omega)]
  have HE : Hid ((∀ i, i < 4 → gw (w4 a) i = gw (w4 b) i) → cmpN a b = 0) := fun h => by unfold cmpN; rw [if_pos (same_words a b ha hb h)]
  obtain ⟨R, hR⟩ : ∃ R, cmpN a b = R := ⟨_, rfl⟩
  rw [hR] at HC HE ⊢
  clear ha hb hR
  have m := Mem.start w
  go_enter Try.func57, Try.ntmps57
  go_wp2_with ((first
    | (refine W.box m rfl (.tmp 0) rfl a rfl ?_; clear m; intro g2 wx2 m)
    | (refine W.box m rfl (.tmp 1) rfl b rfl ?_; clear m; intro g3 wx3 m)); try simp only [Act.put, List.setIfInBounds_toArray, List.set_cons_succ, List.set_cons_zero])
  go_loopw [5] (fun n wr => ∃ k : Nat, k ≤ 4 ∧ n = .int .i64 ((k : Int) - 1) ∧ (∀ i, k ≤ i → i < 4 → gw (w4 a) i = gw (w4 b) i) ∧ Mem w wr [⟨g3, 24, c64 (w4 b)⟩, ⟨g2, 24, c64 (w4 a)⟩]) (fun n _ => (intOf n + 1).toNat)
  case atStart => exact ⟨4, by omega, rfl, fun i h1 h2 => by omega, m⟩
  case round =>
    clear m
    obtain ⟨k, hk, hi, hz, m⟩ := hrel
    rcases k with _ | j
    · have hi' := hi.trans (show (Value.int .i64 (((0 : Nat) : Int) - 1)) = .int .i64 (-1) from rfl)
      subst hi'
      have HR : Hid (R = 0) := HE.out (fun i h => hz i (by omega) h)
      clear hz
      go_wp2
      go_ret
      exact ⟨by rw [HR.out]; rfl, m.below⟩
    · have hi' : _ = Value.int .i64 (j : Int) := hi.trans (by congr 1; omega)
      subst hi'
      have hj : j < 4 := by omega
      obtain ⟨c1, c2⟩ := HC.out j hj (fun i h1 h2 => hz i (by omega) h2)
      obtain ⟨x, ex⟩ : ∃ x, gw (w4 a) j = x := ⟨_, rfl⟩
      obtain ⟨y, ey⟩ : ∃ x, gw (w4 b) j = x := ⟨_, rfl⟩
      have EX : Hid (gw (w4 a) j = x) := ex
      have EY : Hid (gw (w4 b) j = y) := ey
      rw [ex, ey] at c1 c2
      by_cases h1 : x < y
      · have T1 : Hid (decide (x < y) = true) := decide_eq_true h1
        have HR : Hid (R = -1) := c1 h1
        clear c1 c2 ex ey hz h1 hi
        go_wp2
        have F := N_fit 24 wr (c64 (w4 0)) (c64 (w4 0)) (fun _ _ _ _ => False) (fun _ _ _ _ _ h => h)
        refine Mild2.wp_region F (by kernel_rfl) (by kernel_rfl) (Vw.draw _) ?_
        iterate 1 (refine Mild2.step_quiet F rfl rfl rfl (fun w0 hC hF K hK => ?_); clear hF; go_big_quiet_op; refine hK _ ?_; clear hK K hC; clear w0)
        refine Mild2.step_known F rfl rfl (.pointer (some ⟨g2, j, none⟩)) (fun w0 hC _ => W.xidx (.tmp 2) (.tmp 10) rfl g2 j .i64 j rfl hj rfl rfl) ?_
        simp only [Act.put, List.setIfInBounds_toArray, List.set_cons_succ, List.set_cons_zero]
        refine Mild2.step_known F rfl rfl (.int .u64 (x : Nat)) (fun w0 hC _ => W.newget m hC (.tmp 11) rfl 1 j x rfl hj EX.out rfl) ?_
        simp only [Act.put, List.setIfInBounds_toArray, List.set_cons_succ, List.set_cons_zero]
        iterate 1 (refine Mild2.step_quiet F rfl rfl rfl (fun w0 hC hF K hK => ?_); clear hF; go_big_quiet_op; refine hK _ ?_; clear hK K hC; clear w0)
        refine Mild2.step_known F rfl rfl (.pointer (some ⟨g3, j, none⟩)) (fun w0 hC _ => W.xidx (.tmp 3) (.tmp 13) rfl g3 j .i64 j rfl hj rfl rfl) ?_
        simp only [Act.put, List.setIfInBounds_toArray, List.set_cons_succ, List.set_cons_zero]
        refine Mild2.step_known F rfl rfl (.int .u64 (y : Nat)) (fun w0 hC _ => W.newget m hC (.tmp 14) rfl 0 j y rfl hj EY.out rfl) ?_
        simp only [Act.put, List.setIfInBounds_toArray, List.set_cons_succ, List.set_cons_zero]
        refine Mild2.step_known F rfl rfl (.bool true) (fun w0 hC _ => exec_lssU (.tmp 12) (.tmp 15) _ _ rfl x y true T1.out .u64 rfl rfl) ?_
        simp only [Act.put, List.setIfInBounds_toArray, List.set_cons_succ, List.set_cons_zero]
        intro w8 hw8 hf8
        replace m := m.oldM hw8
        clear hf8 hw8 F
        go_wp2
        go_ret
        exact ⟨by rw [HR.out]; rfl, m.below⟩
      · have T1 : Hid (decide (x < y) = false) := decide_eq_false h1
        by_cases h2 : y < x
        · have T2 : Hid (decide (y < x) = true) := decide_eq_true h2
          have HR : Hid (R = 1) := c2 h2
          clear c1 c2 ex ey hz h1 h2 hi
          go_wp2
          have F := N_fit 24 wr (c64 (w4 0)) (c64 (w4 0)) (fun _ _ _ _ => False) (fun _ _ _ _ _ h => h)
          refine Mild2.wp_region F (by kernel_rfl) (by kernel_rfl) (Vw.draw _) ?_
          iterate 1 (refine Mild2.step_quiet F rfl rfl rfl (fun w0 hC hF K hK => ?_); clear hF; go_big_quiet_op; refine hK _ ?_; clear hK K hC; clear w0)
          refine Mild2.step_known F rfl rfl (.pointer (some ⟨g2, j, none⟩)) (fun w0 hC _ => W.xidx (.tmp 2) (.tmp 10) rfl g2 j .i64 j rfl hj rfl rfl) ?_
          simp only [Act.put, List.setIfInBounds_toArray, List.set_cons_succ, List.set_cons_zero]
          refine Mild2.step_known F rfl rfl (.int .u64 (x : Nat)) (fun w0 hC _ => W.newget m hC (.tmp 11) rfl 1 j x rfl hj EX.out rfl) ?_
          simp only [Act.put, List.setIfInBounds_toArray, List.set_cons_succ, List.set_cons_zero]
          iterate 1 (refine Mild2.step_quiet F rfl rfl rfl (fun w0 hC hF K hK => ?_); clear hF; go_big_quiet_op; refine hK _ ?_; clear hK K hC; clear w0)
          refine Mild2.step_known F rfl rfl (.pointer (some ⟨g3, j, none⟩)) (fun w0 hC _ => W.xidx (.tmp 3) (.tmp 13) rfl g3 j .i64 j rfl hj rfl rfl) ?_
          simp only [Act.put, List.setIfInBounds_toArray, List.set_cons_succ, List.set_cons_zero]
          refine Mild2.step_known F rfl rfl (.int .u64 (y : Nat)) (fun w0 hC _ => W.newget m hC (.tmp 14) rfl 0 j y rfl hj EY.out rfl) ?_
          simp only [Act.put, List.setIfInBounds_toArray, List.set_cons_succ, List.set_cons_zero]
          refine Mild2.step_known F rfl rfl (.bool false) (fun w0 hC _ => exec_lssU (.tmp 12) (.tmp 15) _ _ rfl x y false T1.out .u64 rfl rfl) ?_
          simp only [Act.put, List.setIfInBounds_toArray, List.set_cons_succ, List.set_cons_zero]
          intro w8 hw8 hf8
          replace m := m.oldM hw8
          clear hf8 hw8 F
          go_wp2
          have F := N_fit 24 w8 (c64 (w4 0)) (c64 (w4 0)) (fun _ _ _ _ => False) (fun _ _ _ _ _ h => h)
          refine Mild2.wp_region F (by kernel_rfl) (by kernel_rfl) (Vw.draw _) ?_
          iterate 1 (refine Mild2.step_quiet F rfl rfl rfl (fun w0 hC hF K hK => ?_); clear hF; go_big_quiet_op; refine hK _ ?_; clear hK K hC; clear w0)
          refine Mild2.step_known F rfl rfl (.pointer (some ⟨g2, j, none⟩)) (fun w0 hC _ => W.xidx (.tmp 2) (.tmp 17) rfl g2 j .i64 j rfl hj rfl rfl) ?_
          simp only [Act.put, List.setIfInBounds_toArray, List.set_cons_succ, List.set_cons_zero]
          refine Mild2.step_known F rfl rfl (.int .u64 (x : Nat)) (fun w0 hC _ => W.newget m hC (.tmp 18) rfl 1 j x rfl hj EX.out rfl) ?_
          simp only [Act.put, List.setIfInBounds_toArray, List.set_cons_succ, List.set_cons_zero]
          iterate 1 (refine Mild2.step_quiet F rfl rfl rfl (fun w0 hC hF K hK => ?_); clear hF; go_big_quiet_op; refine hK _ ?_; clear hK K hC; clear w0)
          refine Mild2.step_known F rfl rfl (.pointer (some ⟨g3, j, none⟩)) (fun w0 hC _ => W.xidx (.tmp 3) (.tmp 20) rfl g3 j .i64 j rfl hj rfl rfl) ?_
          simp only [Act.put, List.setIfInBounds_toArray, List.set_cons_succ, List.set_cons_zero]
          refine Mild2.step_known F rfl rfl (.int .u64 (y : Nat)) (fun w0 hC _ => W.newget m hC (.tmp 21) rfl 0 j y rfl hj EY.out rfl) ?_
          simp only [Act.put, List.setIfInBounds_toArray, List.set_cons_succ, List.set_cons_zero]
          refine Mild2.step_known F rfl rfl (.bool true) (fun w0 hC _ => exec_gtrU (.tmp 19) (.tmp 22) _ _ rfl x y true T2.out .u64 rfl rfl) ?_
          simp only [Act.put, List.setIfInBounds_toArray, List.set_cons_succ, List.set_cons_zero]
          intro w9 hw8 hf8
          replace m := m.oldM hw8
          clear hf8 hw8 F
          go_wp2
          go_ret
          exact ⟨by rw [HR.out]; rfl, m.below⟩
        · have T2 : Hid (decide (y < x) = false) := decide_eq_false h2
          have HZ : Hid (∀ i, j ≤ i → i < 4 → gw (w4 a) i = gw (w4 b) i) := fun i i1 i2 => by
            by_cases h : i = j
            · rw [h, ex, ey]; omega
            · exact hz i (by omega) i2
          clear c1 c2 ex ey hz h1 h2 hi
          go_wp2
          have F := N_fit 24 wr (c64 (w4 0)) (c64 (w4 0)) (fun _ _ _ _ => False) (fun _ _ _ _ _ h => h)
          refine Mild2.wp_region F (by kernel_rfl) (by kernel_rfl) (Vw.draw _) ?_
          iterate 1 (refine Mild2.step_quiet F rfl rfl rfl (fun w0 hC hF K hK => ?_); clear hF; go_big_quiet_op; refine hK _ ?_; clear hK K hC; clear w0)
          refine Mild2.step_known F rfl rfl (.pointer (some ⟨g2, j, none⟩)) (fun w0 hC _ => W.xidx (.tmp 2) (.tmp 10) rfl g2 j .i64 j rfl hj rfl rfl) ?_
          simp only [Act.put, List.setIfInBounds_toArray, List.set_cons_succ, List.set_cons_zero]
          refine Mild2.step_known F rfl rfl (.int .u64 (x : Nat)) (fun w0 hC _ => W.newget m hC (.tmp 11) rfl 1 j x rfl hj EX.out rfl) ?_
          simp only [Act.put, List.setIfInBounds_toArray, List.set_cons_succ, List.set_cons_zero]
          iterate 1 (refine Mild2.step_quiet F rfl rfl rfl (fun w0 hC hF K hK => ?_); clear hF; go_big_quiet_op; refine hK _ ?_; clear hK K hC; clear w0)
          refine Mild2.step_known F rfl rfl (.pointer (some ⟨g3, j, none⟩)) (fun w0 hC _ => W.xidx (.tmp 3) (.tmp 13) rfl g3 j .i64 j rfl hj rfl rfl) ?_
          simp only [Act.put, List.setIfInBounds_toArray, List.set_cons_succ, List.set_cons_zero]
          refine Mild2.step_known F rfl rfl (.int .u64 (y : Nat)) (fun w0 hC _ => W.newget m hC (.tmp 14) rfl 0 j y rfl hj EY.out rfl) ?_
          simp only [Act.put, List.setIfInBounds_toArray, List.set_cons_succ, List.set_cons_zero]
          refine Mild2.step_known F rfl rfl (.bool false) (fun w0 hC _ => exec_lssU (.tmp 12) (.tmp 15) _ _ rfl x y false T1.out .u64 rfl rfl) ?_
          simp only [Act.put, List.setIfInBounds_toArray, List.set_cons_succ, List.set_cons_zero]
          intro w8 hw8 hf8
          replace m := m.oldM hw8
          clear hf8 hw8 F
          go_wp2
          have F := N_fit 24 w8 (c64 (w4 0)) (c64 (w4 0)) (fun _ _ _ _ => False) (fun _ _ _ _ _ h => h)
          refine Mild2.wp_region F (by kernel_rfl) (by kernel_rfl) (Vw.draw _) ?_
          iterate 1 (refine Mild2.step_quiet F rfl rfl rfl (fun w0 hC hF K hK => ?_); clear hF; go_big_quiet_op; refine hK _ ?_; clear hK K hC; clear w0)
          refine Mild2.step_known F rfl rfl (.pointer (some ⟨g2, j, none⟩)) (fun w0 hC _ => W.xidx (.tmp 2) (.tmp 17) rfl g2 j .i64 j rfl hj rfl rfl) ?_
          simp only [Act.put, List.setIfInBounds_toArray, List.set_cons_succ, List.set_cons_zero]
          refine Mild2.step_known F rfl rfl (.int .u64 (x : Nat)) (fun w0 hC _ => W.newget m hC (.tmp 18) rfl 1 j x rfl hj EX.out rfl) ?_
          simp only [Act.put, List.setIfInBounds_toArray, List.set_cons_succ, List.set_cons_zero]
          iterate 1 (refine Mild2.step_quiet F rfl rfl rfl (fun w0 hC hF K hK => ?_); clear hF; go_big_quiet_op; refine hK _ ?_; clear hK K hC; clear w0)
          refine Mild2.step_known F rfl rfl (.pointer (some ⟨g3, j, none⟩)) (fun w0 hC _ => W.xidx (.tmp 3) (.tmp 20) rfl g3 j .i64 j rfl hj rfl rfl) ?_
          simp only [Act.put, List.setIfInBounds_toArray, List.set_cons_succ, List.set_cons_zero]
          refine Mild2.step_known F rfl rfl (.int .u64 (y : Nat)) (fun w0 hC _ => W.newget m hC (.tmp 21) rfl 0 j y rfl hj EY.out rfl) ?_
          simp only [Act.put, List.setIfInBounds_toArray, List.set_cons_succ, List.set_cons_zero]
          refine Mild2.step_known F rfl rfl (.bool false) (fun w0 hC _ => exec_gtrU (.tmp 19) (.tmp 22) _ _ rfl x y false T2.out .u64 rfl rfl) ?_
          simp only [Act.put, List.setIfInBounds_toArray, List.set_cons_succ, List.set_cons_zero]
          intro w9 hw8 hf8
          replace m := m.oldM hw8
          clear hf8 hw8 F
          go_wp2
          go_roundw
          case rel => exact ⟨j, by omega, by go_num, HZ.out, m⟩
          case measure => simp [intOf]

end Go.Proofs.Ytpfoeeiacfadfaa
