/-
  Contract of math/bits' Div64, where the divisor's highest bit is set.
-/
import Derived.Test.YtpfoeeiacfadfaaV7
import Derived.Deep.DeepCutAuto
import Derived.Deep.CutBlock
namespace Go.Proofs.Ytpfoeeiacfadfaa
open Go.RowKit

/-- What the division of two words by one leans on. -/
structure D64 (h l y y1 y2 u1 u0 q r A Q1 R1 Q0 q2 r2 A3 P1 P2 : Nat) (Z1 Z2 Z3 T1 T2 T3 T4 T5 : Int) : Prop where
  S1 : y * 2 ^ 0 % 18446744073709551616 = y
  S2 : h * 2 ^ 0 % 18446744073709551616 = h
  S3 : l * 2 ^ 0 % 18446744073709551616 = l
  S4 : y / 2 ^ 32 = y1
  S5 : l / 2 ^ 32 = u1
  S6 : l / 2 ^ 64 = 0
  S7 : y % 4294967296 = y2
  S8 : l % 4294967296 = u0
  S9 : h ||| 0 = h
  S10 : h / y1 = q
  B1 : y < 18446744073709551616
  B2 : h < 18446744073709551616
  B3 : l < 18446744073709551616
  C0 : 0 ≤ 64
  C32 : 32 ≤ 64
  C64 : 64 ≤ 64
  B0 : 0 < 18446744073709551616
  B4 : y1 ≠ 0
  S11 : q * y1 = A
  S12 : r + A = h
  B5 : A < 18446744073709551616
  G1 : ∀ q r : Nat, q * y1 + r = h → (4294967296 ≤ q ∨ 4294967296 * r + u1 < q * y2) → Q1 < q
  G2 : ∀ q r : Nat, q * y1 + r = h → Q1 ≤ q → q * y2 ≤ 4294967296 * r + u1 → q = Q1
  G3 : ∀ q r : Nat, q * y1 + r = h → Q1 ≤ q → q ≤ 4294967296 → 4294967296 ≤ r → q = Q1
  K1 : ∀ q r : Nat, q * y1 + r = R1 → (4294967296 ≤ q ∨ 4294967296 * r + u0 < q * y2) → Q0 < q
  K2 : ∀ q r : Nat, q * y1 + r = R1 → Q0 ≤ q → q * y2 ≤ 4294967296 * r + u0 → q = Q0
  K3 : ∀ q r : Nat, q * y1 + r = R1 → Q0 ≤ q → q ≤ 4294967296 → 4294967296 ≤ r → q = Q0
  Y4 : (Z2 - Z3) % 18446744073709551616 = (R1 : Nat)
  Y5 : R1 / y1 = q2
  Y5B : R1 < 18446744073709551616
  Y6 : q2 * y1 = A3
  Y6B : A3 < 18446744073709551616
  Y7 : r2 + A3 = R1
  I2 : Q0 ≤ q2 ∧ q2 ≤ 4294967297 ∧ r2 < 4294967296 ∧ q2 * y1 + r2 = R1
  XP1 : Q1 * 4294967296 = P1
  XB1 : P1 < 18446744073709551616
  XP2 : P1 + Q0 = P2
  XB2 : P2 < 18446744073709551616
  XP : P2 = Q1 * 4294967296 + Q0
  I1 : Q1 ≤ q ∧ q ≤ 4294967297 ∧ r < 4294967296 ∧ q * y1 + r = h
  BB : y2 < 4294967296 ∧ y1 < 4294967296 ∧ u1 < 4294967296 ∧ u0 < 4294967296
  Y1 : ((h : Int) * 4294967296) % 18446744073709551616 = Z1
  Y2 : (Z1 + (u1 : Int)) % 18446744073709551616 = Z2
  Y3 : ((Q1 : Int) * y) % 18446744073709551616 = Z3
  XT1 : ((R1 : Int) * 4294967296) % 18446744073709551616 = T1
  XT2 : (T1 + (u0 : Int)) % 18446744073709551616 = T2
  XT3 : ((Q0 : Int) * y) % 18446744073709551616 = T3
  XT4 : (T2 - T3) % 18446744073709551616 = T4
  XT5 : T4.fdiv (2 ^ (min (0 : Int).toNat IntKind.u64.bits)) = T5

set_option maxRecDepth 100000 in
set_option maxHeartbeats 2000000 in
theorem div64_walk (h l y y1 y2 u1 u0 q r A Q1 R1 Q0 q2 r2 A3 P1 P2 : Nat) (Z1 Z2 Z3 T1 T2 T3 T4 T5 : Int) (D : Hid (D64 h l y y1 y2 u1 u0 q r A Q1 R1 Q0 q2 r2 A3 P1 P2 Z1 Z2 Z3 T1 T2 T3 T4 T5)) (HLZ : Hid (∀ w, Calls Try.prog 86 #[.int .u64 (y : Int)] w fun e w' => e = .returned (.int .i64 0) ∧ w' = w))
    (y0 : ((y : Int) == 0) = false) (yh : ¬ ((y : Int) ≤ (h : Int))) (hI : ((h : Int) == 0) = false) (w : World) :
    Calls Try.prog 85 #[.int .u64 (h : Int), .int .u64 (l : Int), .int .u64 (y : Int)] w fun e w' => ∃ r, e = .returned (.tuple #[.int .u64 ((Q1 * 4294967296 + Q0 : Nat) : Int), r]) ∧ w' = w := by
  go_enter Try.func85, Try.ntmps85
  go_upto_block 0 with ((first
    | (go_at_call 86; refine (HLZ.out _).mono ?_; rintro e w7 ⟨rfl, hw7⟩; rw [hw7])
    | (refine wpList_val rfl (.int .u64 (y : Int)) (exec_shlZ (.tmp 37) (.tmp 38) _ _ rfl y 0 y D.out.S1 .u64 0 rfl D.out.C0 rfl rfl) ?_)
    | (refine wpList_val rfl (.int .u64 (y1 : Int)) (exec_shrZ (.tmp 40) (.const (.int .u64 32)) _ _ rfl y 32 y1 D.out.S4 .u64 32 rfl D.out.C32 rfl rfl) ?_)
    | (refine wpList_val rfl (.int .u64 (y2 : Int)) (exec_andM (.tmp 42) (.const (.int .u64 4294967295)) _ _ rfl y y2 D.out.S7 D.out.B1 rfl rfl) ?_)
    | (refine wpList_val rfl (.int .u64 (h : Int)) (exec_shlZ (.tmp 44) (.tmp 45) _ _ rfl h 0 h D.out.S2 .u64 0 rfl D.out.C0 rfl rfl) ?_)
    | (refine wpList_val rfl (.int .u64 ((0 : Nat) : Int)) (exec_shrZ (.tmp 47) (.tmp 49) _ _ rfl l 64 0 D.out.S6 .u64 64 rfl D.out.C64 rfl rfl) ?_)
    | (refine wpList_val rfl (.int .u64 (h : Int)) (exec_or (.tmp 46) (.tmp 50) _ _ rfl h 0 h D.out.S9 D.out.B2 D.out.B0 rfl rfl) ?_)
    | (refine wpList_val rfl (.int .u64 (l : Int)) (exec_shlZ (.tmp 52) (.tmp 53) _ _ rfl l 0 l D.out.S3 .u64 0 rfl D.out.C0 rfl rfl) ?_)
    | (refine wpList_val rfl (.int .u64 (u1 : Int)) (exec_shrZ (.tmp 55) (.const (.int .u64 32)) _ _ rfl l 32 u1 D.out.S5 .u64 32 rfl D.out.C32 rfl rfl) ?_)
    | (refine wpList_val rfl (.int .u64 (u0 : Int)) (exec_andM (.tmp 57) (.const (.int .u64 4294967295)) _ _ rfl l u0 D.out.S8 D.out.B3 rfl rfl) ?_)
    | (refine wpList_val rfl (.int .u64 (q : Int)) (exec_quoU (.tmp 59) (.tmp 60) _ _ rfl h y1 q D.out.S10 D.out.B2 D.out.B4 rfl rfl) ?_)
    | (refine wpList_val rfl (.int .u64 (A : Int)) (exec_mulU (.tmp 63) (.tmp 64) _ _ rfl q y1 A D.out.S11 D.out.B5 rfl rfl) ?_)
    | (refine wpList_val rfl (.int .u64 (r : Int)) (exec_subU (.tmp 62) (.tmp 65) _ _ rfl h A r D.out.S12 D.out.B2 rfl rfl) ?_)); try simp only [Act.put, List.setIfInBounds_toArray, List.set_cons_succ, List.set_cons_zero])
  go_cut [15, 16] (fun a b wx => a = .int .u64 (Q1 : Nat) ∧ wx = w)
  case first =>
    go_wp2_with fail
    go_loopw [15, 16] (fun a b wr => ∃ q r : Nat, a = .int .u64 (q : Nat) ∧ b = .int .u64 (r : Nat) ∧ wr = w ∧ Q1 ≤ q ∧ q ≤ 4294967297 ∧ r < 4294967296 ∧ q * y1 + r = h) (fun a _ _ => (intOf a).toNat)
    case atStart => exact ⟨_, _, rfl, rfl, rfl, D.out.I1⟩
    case round =>
      obtain ⟨q, r, rfl, rfl, hwr, j1, j2, j3, j4⟩ := hrel
      have hwr' := hwr.symm
      clear hwr
      subst hwr'
      obtain ⟨f1, f2, f3, f4⟩ := id D.out.BB
      have hqy2 : q < 4294967296 → q * y2 < 18446744073709551616 := fun h => by
        have := Nat.mul_le_mul (show q ≤ 4294967295 by omega) (show y2 ≤ 4294967295 by omega)
        omega
      by_cases ht : 4294967296 ≤ q ∨ 4294967296 * r + u1 < q * y2
      · have hgr := D.out.G1 q r j4 ht
        obtain ⟨q', hq'⟩ : ∃ q', q = q' + 1 := ⟨q - 1, by omega⟩
        obtain ⟨r', hr'⟩ : ∃ r', r + y1 = r' := ⟨_, rfl⟩
        have j4' : q' * y1 + r' = h := by rw [hq', Nat.add_mul] at j4; omega
        have XQ : Hid (q' + 1 = q ∧ q < 18446744073709551616 ∧ r + y1 = r' ∧ r' < 18446744073709551616) := ⟨hq'.symm, by omega, hr', by omega⟩
        by_cases hX : 4294967296 ≤ q
        · have t1 : Hid (decide (4294967296 ≤ q) = true) := decide_eq_true hX
          clear ht
          by_cases hb : 4294967296 ≤ r'
          · have t3 : Hid (decide (4294967296 ≤ r') = true) := decide_eq_true hb
            have hfin : Hid (q' = Q1) := D.out.G3 q' r' j4' (by omega) (by omega) hb
            clear j1 j2 j3 j4 f1 f2 f3 f4 hqy2  hb hgr hr' hq' j4' hX
            go_wp2_with ((first
              | (refine wpList_val rfl (.bool true) (exec_geqU (.tmp 67) (.const (.int .u64 4294967296)) _ _ rfl q 4294967296 true t1.out .u64 rfl rfl) ?_)
              | (refine wpList_val rfl (.int .u64 (q' : Int)) (exec_subU (.tmp 79) (.const (.int .u64 1)) _ _ rfl q 1 q' XQ.out.1 XQ.out.2.1 rfl rfl) ?_)
              | (refine wpList_val rfl (.int .u64 (r' : Int)) (exec_addU (.tmp 81) (.tmp 82) _ _ rfl r y1 r' XQ.out.2.2.1 XQ.out.2.2.2 rfl rfl) ?_)
              | (refine wpList_val rfl (.bool true) (exec_geqU (.tmp 84) (.const (.int .u64 4294967296)) _ _ rfl r' 4294967296 true t3.out .u64 rfl rfl) ?_)
              | (refine wpList_skipG rfl ?_)); try simp only [Act.put, List.setIfInBounds_toArray, List.set_cons_succ, List.set_cons_zero])
            go_meet
            exact ⟨by rw [hfin.out], rfl⟩
          · have t3 : Hid (decide (4294967296 ≤ r') = false) := decide_eq_false hb
            have J : Hid ((Q1 ≤ q' ∧ q' ≤ 4294967297 ∧ r' < 4294967296 ∧ q' * y1 + r' = h) ∧ q' < q) := ⟨⟨by omega, by omega, by omega, j4'⟩, by omega⟩
            clear j1 j2 j3 j4 f1 f2 f3 f4 hqy2  hb hgr hr' hq' j4' hX
            go_wp2_with ((first
              | (refine wpList_val rfl (.bool true) (exec_geqU (.tmp 67) (.const (.int .u64 4294967296)) _ _ rfl q 4294967296 true t1.out .u64 rfl rfl) ?_)
              | (refine wpList_val rfl (.int .u64 (q' : Int)) (exec_subU (.tmp 79) (.const (.int .u64 1)) _ _ rfl q 1 q' XQ.out.1 XQ.out.2.1 rfl rfl) ?_)
              | (refine wpList_val rfl (.int .u64 (r' : Int)) (exec_addU (.tmp 81) (.tmp 82) _ _ rfl r y1 r' XQ.out.2.2.1 XQ.out.2.2.2 rfl rfl) ?_)
              | (refine wpList_val rfl (.bool false) (exec_geqU (.tmp 84) (.const (.int .u64 4294967296)) _ _ rfl r' 4294967296 false t3.out .u64 rfl rfl) ?_)
              | (refine wpList_skipG rfl ?_)); try simp only [Act.put, List.setIfInBounds_toArray, List.set_cons_succ, List.set_cons_zero])
            go_roundw
            case rel => exact ⟨q', r', rfl, rfl, by first | rfl | trivial, J.out.1⟩
            case measure => have := J.out.2; simp [intOf]; omega
        · have t1 : Hid (decide (4294967296 ≤ q) = false) := decide_eq_false hX
          obtain ⟨A2, hA2⟩ : ∃ A, q * y2 = A := ⟨_, rfl⟩
          obtain ⟨E2, hE2⟩ : ∃ A, 4294967296 * r = A := ⟨_, rfl⟩
          obtain ⟨F2, hF2⟩ : ∃ A, E2 + u1 = A := ⟨_, rfl⟩
          have X : Hid (q * y2 = A2 ∧ A2 < 18446744073709551616 ∧ 4294967296 * r = E2 ∧ E2 < 18446744073709551616 ∧ E2 + u1 = F2 ∧ F2 < 18446744073709551616) := ⟨hA2, by rw [← hA2]; exact hqy2 (by omega), hE2, by omega, hF2, by omega⟩
          have t2 : Hid (decide (F2 < A2) = true) := decide_eq_true (by omega)
          clear ht
          by_cases hb : 4294967296 ≤ r'
          · have t3 : Hid (decide (4294967296 ≤ r') = true) := decide_eq_true hb
            have hfin : Hid (q' = Q1) := D.out.G3 q' r' j4' (by omega) (by omega) hb
            clear j1 j2 j3 j4 f1 f2 f3 f4 hqy2 hA2 hE2 hF2 hb hgr hr' hq' j4' hX
            go_wp2_with ((first
              | (refine wpList_val rfl (.bool false) (exec_geqU (.tmp 67) (.const (.int .u64 4294967296)) _ _ rfl q 4294967296 false t1.out .u64 rfl rfl) ?_)
              | (refine wpList_valG rfl (.int .u64 (A2 : Int)) (exec_mulU (.tmp 70) (.tmp 71) _ _ rfl q y2 A2 X.out.1 X.out.2.1 rfl rfl) ?_)
              | (refine wpList_valG rfl (.int .u64 (E2 : Int)) (exec_mulU (.const (.int .u64 4294967296)) (.tmp 73) _ _ rfl 4294967296 r E2 X.out.2.2.1 X.out.2.2.2.1 rfl rfl) ?_)
              | (refine wpList_valG rfl (.int .u64 (F2 : Int)) (exec_addU (.tmp 74) (.tmp 75) _ _ rfl E2 u1 F2 X.out.2.2.2.2.1 X.out.2.2.2.2.2 rfl rfl) ?_)
              | (refine wpList_valG rfl (.bool true) (exec_gtrU (.tmp 72) (.tmp 76) _ _ rfl A2 F2 true t2.out .u64 rfl rfl) ?_)
              | (refine wpList_val rfl (.int .u64 (q' : Int)) (exec_subU (.tmp 79) (.const (.int .u64 1)) _ _ rfl q 1 q' XQ.out.1 XQ.out.2.1 rfl rfl) ?_)
              | (refine wpList_val rfl (.int .u64 (r' : Int)) (exec_addU (.tmp 81) (.tmp 82) _ _ rfl r y1 r' XQ.out.2.2.1 XQ.out.2.2.2 rfl rfl) ?_)
              | (refine wpList_val rfl (.bool true) (exec_geqU (.tmp 84) (.const (.int .u64 4294967296)) _ _ rfl r' 4294967296 true t3.out .u64 rfl rfl) ?_)
              | (refine wpList_skipG rfl ?_)); try simp only [Act.put, List.setIfInBounds_toArray, List.set_cons_succ, List.set_cons_zero])
            go_meet
            exact ⟨by rw [hfin.out], rfl⟩
          · have t3 : Hid (decide (4294967296 ≤ r') = false) := decide_eq_false hb
            have J : Hid ((Q1 ≤ q' ∧ q' ≤ 4294967297 ∧ r' < 4294967296 ∧ q' * y1 + r' = h) ∧ q' < q) := ⟨⟨by omega, by omega, by omega, j4'⟩, by omega⟩
            clear j1 j2 j3 j4 f1 f2 f3 f4 hqy2 hA2 hE2 hF2 hb hgr hr' hq' j4' hX
            go_wp2_with ((first
              | (refine wpList_val rfl (.bool false) (exec_geqU (.tmp 67) (.const (.int .u64 4294967296)) _ _ rfl q 4294967296 false t1.out .u64 rfl rfl) ?_)
              | (refine wpList_valG rfl (.int .u64 (A2 : Int)) (exec_mulU (.tmp 70) (.tmp 71) _ _ rfl q y2 A2 X.out.1 X.out.2.1 rfl rfl) ?_)
              | (refine wpList_valG rfl (.int .u64 (E2 : Int)) (exec_mulU (.const (.int .u64 4294967296)) (.tmp 73) _ _ rfl 4294967296 r E2 X.out.2.2.1 X.out.2.2.2.1 rfl rfl) ?_)
              | (refine wpList_valG rfl (.int .u64 (F2 : Int)) (exec_addU (.tmp 74) (.tmp 75) _ _ rfl E2 u1 F2 X.out.2.2.2.2.1 X.out.2.2.2.2.2 rfl rfl) ?_)
              | (refine wpList_valG rfl (.bool true) (exec_gtrU (.tmp 72) (.tmp 76) _ _ rfl A2 F2 true t2.out .u64 rfl rfl) ?_)
              | (refine wpList_val rfl (.int .u64 (q' : Int)) (exec_subU (.tmp 79) (.const (.int .u64 1)) _ _ rfl q 1 q' XQ.out.1 XQ.out.2.1 rfl rfl) ?_)
              | (refine wpList_val rfl (.int .u64 (r' : Int)) (exec_addU (.tmp 81) (.tmp 82) _ _ rfl r y1 r' XQ.out.2.2.1 XQ.out.2.2.2 rfl rfl) ?_)
              | (refine wpList_val rfl (.bool false) (exec_geqU (.tmp 84) (.const (.int .u64 4294967296)) _ _ rfl r' 4294967296 false t3.out .u64 rfl rfl) ?_)
              | (refine wpList_skipG rfl ?_)); try simp only [Act.put, List.setIfInBounds_toArray, List.set_cons_succ, List.set_cons_zero])
            go_roundw
            case rel => exact ⟨q', r', rfl, rfl, by first | rfl | trivial, J.out.1⟩
            case measure => have := J.out.2; simp [intOf]; omega
      · have hX : ¬ 4294967296 ≤ q := fun h => ht (.inl h)
        have t1 : Hid (decide (4294967296 ≤ q) = false) := decide_eq_false hX
        obtain ⟨A2, hA2⟩ : ∃ A, q * y2 = A := ⟨_, rfl⟩
        obtain ⟨E2, hE2⟩ : ∃ A, 4294967296 * r = A := ⟨_, rfl⟩
        obtain ⟨F2, hF2⟩ : ∃ A, E2 + u1 = A := ⟨_, rfl⟩
        have X : Hid (q * y2 = A2 ∧ A2 < 18446744073709551616 ∧ 4294967296 * r = E2 ∧ E2 < 18446744073709551616 ∧ E2 + u1 = F2 ∧ F2 < 18446744073709551616) := ⟨hA2, by rw [← hA2]; exact hqy2 (by omega), hE2, by omega, hF2, by omega⟩
        have hle : q * y2 ≤ 4294967296 * r + u1 := by omega
        have t2 : Hid (decide (F2 < A2) = false) := decide_eq_false (by omega)
        have hfin : Hid (q = Q1) := D.out.G2 q r j4 j1 hle
        clear j1 j2 j3 j4 f1 f2 f3 f4 hqy2  ht hle hX hA2 hE2 hF2
        go_wp2_with ((first
          | (refine wpList_val rfl (.bool false) (exec_geqU (.tmp 67) (.const (.int .u64 4294967296)) _ _ rfl q 4294967296 false t1.out .u64 rfl rfl) ?_)
          | (refine wpList_valG rfl (.int .u64 (A2 : Int)) (exec_mulU (.tmp 70) (.tmp 71) _ _ rfl q y2 A2 X.out.1 X.out.2.1 rfl rfl) ?_)
          | (refine wpList_valG rfl (.int .u64 (E2 : Int)) (exec_mulU (.const (.int .u64 4294967296)) (.tmp 73) _ _ rfl 4294967296 r E2 X.out.2.2.1 X.out.2.2.2.1 rfl rfl) ?_)
          | (refine wpList_valG rfl (.int .u64 (F2 : Int)) (exec_addU (.tmp 74) (.tmp 75) _ _ rfl E2 u1 F2 X.out.2.2.2.2.1 X.out.2.2.2.2.2 rfl rfl) ?_)
          | (refine wpList_valG rfl (.bool false) (exec_gtrU (.tmp 72) (.tmp 76) _ _ rfl A2 F2 false t2.out .u64 rfl rfl) ?_)
          | (refine wpList_skipG rfl ?_)); try simp only [Act.put, List.setIfInBounds_toArray, List.set_cons_succ, List.set_cons_zero])
        go_meet
        exact ⟨by rw [hfin.out], rfl⟩
  case rest =>
    obtain ⟨rfl, hwx⟩ := hcut; have hwx' := hwx.symm; clear hwx; subst hwx'
    go_upto_block 2 with ((first
      | (refine wpList_val rfl (.int .u64 (Z1 : Int)) (exec_mulW (.tmp 86) (.const (.int .u64 4294967296)) _ _ rfl h 4294967296 Z1 D.out.Y1 rfl rfl) ?_)
      | (refine wpList_val rfl (.int .u64 (Z2 : Int)) (exec_addW (.tmp 87) (.tmp 88) _ _ rfl Z1 u1 Z2 D.out.Y2 rfl rfl) ?_)
      | (refine wpList_val rfl (.int .u64 (Z3 : Int)) (exec_mulW (.tmp 90) (.tmp 91) _ _ rfl Q1 y Z3 D.out.Y3 rfl rfl) ?_)
      | (refine wpList_val rfl (.int .u64 ((R1 : Nat) : Int)) (exec_subW (.tmp 89) (.tmp 92) _ _ rfl Z2 Z3 (R1 : Nat) D.out.Y4 rfl rfl) ?_)
      | (refine wpList_val rfl (.int .u64 (q2 : Int)) (exec_quoU (.tmp 94) (.tmp 95) _ _ rfl R1 y1 q2 D.out.Y5 D.out.Y5B D.out.B4 rfl rfl) ?_)
      | (refine wpList_val rfl (.int .u64 (A3 : Int)) (exec_mulU (.tmp 98) (.tmp 99) _ _ rfl q2 y1 A3 D.out.Y6 D.out.Y6B rfl rfl) ?_)
      | (refine wpList_val rfl (.int .u64 (r2 : Int)) (exec_subU (.tmp 97) (.tmp 100) _ _ rfl R1 A3 r2 D.out.Y7 D.out.Y5B rfl rfl) ?_)); try simp only [Act.put, List.setIfInBounds_toArray, List.set_cons_succ, List.set_cons_zero])
    go_cut [18, 16] (fun a b wx => a = .int .u64 (Q0 : Nat) ∧ wx = w)
    case first =>
      go_wp2_with fail
      go_loopw [18, 16] (fun a b wr => ∃ q r : Nat, a = .int .u64 (q : Nat) ∧ b = .int .u64 (r : Nat) ∧ wr = w ∧ Q0 ≤ q ∧ q ≤ 4294967297 ∧ r < 4294967296 ∧ q * y1 + r = R1) (fun a _ _ => (intOf a).toNat)
      case atStart => exact ⟨_, _, rfl, rfl, rfl, D.out.I2⟩
      case round =>
        obtain ⟨q, r, rfl, rfl, hwr, j1, j2, j3, j4⟩ := hrel
        have hwr' := hwr.symm
        clear hwr
        subst hwr'
        obtain ⟨f1, f2, f3, f4⟩ := id D.out.BB
        have hqy2 : q < 4294967296 → q * y2 < 18446744073709551616 := fun h => by
          have := Nat.mul_le_mul (show q ≤ 4294967295 by omega) (show y2 ≤ 4294967295 by omega)
          omega
        by_cases ht : 4294967296 ≤ q ∨ 4294967296 * r + u0 < q * y2
        · have hgr := D.out.K1 q r j4 ht
          obtain ⟨q', hq'⟩ : ∃ q', q = q' + 1 := ⟨q - 1, by omega⟩
          obtain ⟨r', hr'⟩ : ∃ r', r + y1 = r' := ⟨_, rfl⟩
          have j4' : q' * y1 + r' = R1 := by rw [hq', Nat.add_mul] at j4; omega
          have XQ : Hid (q' + 1 = q ∧ q < 18446744073709551616 ∧ r + y1 = r' ∧ r' < 18446744073709551616) := ⟨hq'.symm, by omega, hr', by omega⟩
          by_cases hX : 4294967296 ≤ q
          · have t1 : Hid (decide (4294967296 ≤ q) = true) := decide_eq_true hX
            clear ht
            by_cases hb : 4294967296 ≤ r'
            · have t3 : Hid (decide (4294967296 ≤ r') = true) := decide_eq_true hb
              have hfin : Hid (q' = Q0) := D.out.K3 q' r' j4' (by omega) (by omega) hb
              clear j1 j2 j3 j4 f1 f2 f3 f4 hqy2  hb hgr hr' hq' j4' hX
              go_wp2_with ((first
                | (refine wpList_val rfl (.bool true) (exec_geqU (.tmp 102) (.const (.int .u64 4294967296)) _ _ rfl q 4294967296 true t1.out .u64 rfl rfl) ?_)
                | (refine wpList_val rfl (.int .u64 (q' : Int)) (exec_subU (.tmp 114) (.const (.int .u64 1)) _ _ rfl q 1 q' XQ.out.1 XQ.out.2.1 rfl rfl) ?_)
                | (refine wpList_val rfl (.int .u64 (r' : Int)) (exec_addU (.tmp 116) (.tmp 117) _ _ rfl r y1 r' XQ.out.2.2.1 XQ.out.2.2.2 rfl rfl) ?_)
                | (refine wpList_val rfl (.bool true) (exec_geqU (.tmp 119) (.const (.int .u64 4294967296)) _ _ rfl r' 4294967296 true t3.out .u64 rfl rfl) ?_)
                | (refine wpList_skipG rfl ?_)); try simp only [Act.put, List.setIfInBounds_toArray, List.set_cons_succ, List.set_cons_zero])
              go_meet
              exact ⟨by rw [hfin.out], rfl⟩
            · have t3 : Hid (decide (4294967296 ≤ r') = false) := decide_eq_false hb
              have J : Hid ((Q0 ≤ q' ∧ q' ≤ 4294967297 ∧ r' < 4294967296 ∧ q' * y1 + r' = R1) ∧ q' < q) := ⟨⟨by omega, by omega, by omega, j4'⟩, by omega⟩
              clear j1 j2 j3 j4 f1 f2 f3 f4 hqy2  hb hgr hr' hq' j4' hX
              go_wp2_with ((first
                | (refine wpList_val rfl (.bool true) (exec_geqU (.tmp 102) (.const (.int .u64 4294967296)) _ _ rfl q 4294967296 true t1.out .u64 rfl rfl) ?_)
                | (refine wpList_val rfl (.int .u64 (q' : Int)) (exec_subU (.tmp 114) (.const (.int .u64 1)) _ _ rfl q 1 q' XQ.out.1 XQ.out.2.1 rfl rfl) ?_)
                | (refine wpList_val rfl (.int .u64 (r' : Int)) (exec_addU (.tmp 116) (.tmp 117) _ _ rfl r y1 r' XQ.out.2.2.1 XQ.out.2.2.2 rfl rfl) ?_)
                | (refine wpList_val rfl (.bool false) (exec_geqU (.tmp 119) (.const (.int .u64 4294967296)) _ _ rfl r' 4294967296 false t3.out .u64 rfl rfl) ?_)
                | (refine wpList_skipG rfl ?_)); try simp only [Act.put, List.setIfInBounds_toArray, List.set_cons_succ, List.set_cons_zero])
              go_roundw
              case rel => exact ⟨q', r', rfl, rfl, by first | rfl | trivial, J.out.1⟩
              case measure => have := J.out.2; simp [intOf]; omega
          · have t1 : Hid (decide (4294967296 ≤ q) = false) := decide_eq_false hX
            obtain ⟨A2, hA2⟩ : ∃ A, q * y2 = A := ⟨_, rfl⟩
            obtain ⟨E2, hE2⟩ : ∃ A, 4294967296 * r = A := ⟨_, rfl⟩
            obtain ⟨F2, hF2⟩ : ∃ A, E2 + u0 = A := ⟨_, rfl⟩
            have X : Hid (q * y2 = A2 ∧ A2 < 18446744073709551616 ∧ 4294967296 * r = E2 ∧ E2 < 18446744073709551616 ∧ E2 + u0 = F2 ∧ F2 < 18446744073709551616) := ⟨hA2, by rw [← hA2]; exact hqy2 (by omega), hE2, by omega, hF2, by omega⟩
            have t2 : Hid (decide (F2 < A2) = true) := decide_eq_true (by omega)
            clear ht
            by_cases hb : 4294967296 ≤ r'
            · have t3 : Hid (decide (4294967296 ≤ r') = true) := decide_eq_true hb
              have hfin : Hid (q' = Q0) := D.out.K3 q' r' j4' (by omega) (by omega) hb
              clear j1 j2 j3 j4 f1 f2 f3 f4 hqy2 hA2 hE2 hF2 hb hgr hr' hq' j4' hX
              go_wp2_with ((first
                | (refine wpList_val rfl (.bool false) (exec_geqU (.tmp 102) (.const (.int .u64 4294967296)) _ _ rfl q 4294967296 false t1.out .u64 rfl rfl) ?_)
                | (refine wpList_valG rfl (.int .u64 (A2 : Int)) (exec_mulU (.tmp 105) (.tmp 106) _ _ rfl q y2 A2 X.out.1 X.out.2.1 rfl rfl) ?_)
                | (refine wpList_valG rfl (.int .u64 (E2 : Int)) (exec_mulU (.const (.int .u64 4294967296)) (.tmp 108) _ _ rfl 4294967296 r E2 X.out.2.2.1 X.out.2.2.2.1 rfl rfl) ?_)
                | (refine wpList_valG rfl (.int .u64 (F2 : Int)) (exec_addU (.tmp 109) (.tmp 110) _ _ rfl E2 u0 F2 X.out.2.2.2.2.1 X.out.2.2.2.2.2 rfl rfl) ?_)
                | (refine wpList_valG rfl (.bool true) (exec_gtrU (.tmp 107) (.tmp 111) _ _ rfl A2 F2 true t2.out .u64 rfl rfl) ?_)
                | (refine wpList_val rfl (.int .u64 (q' : Int)) (exec_subU (.tmp 114) (.const (.int .u64 1)) _ _ rfl q 1 q' XQ.out.1 XQ.out.2.1 rfl rfl) ?_)
                | (refine wpList_val rfl (.int .u64 (r' : Int)) (exec_addU (.tmp 116) (.tmp 117) _ _ rfl r y1 r' XQ.out.2.2.1 XQ.out.2.2.2 rfl rfl) ?_)
                | (refine wpList_val rfl (.bool true) (exec_geqU (.tmp 119) (.const (.int .u64 4294967296)) _ _ rfl r' 4294967296 true t3.out .u64 rfl rfl) ?_)
                | (refine wpList_skipG rfl ?_)); try simp only [Act.put, List.setIfInBounds_toArray, List.set_cons_succ, List.set_cons_zero])
              go_meet
              exact ⟨by rw [hfin.out], rfl⟩
            · have t3 : Hid (decide (4294967296 ≤ r') = false) := decide_eq_false hb
              have J : Hid ((Q0 ≤ q' ∧ q' ≤ 4294967297 ∧ r' < 4294967296 ∧ q' * y1 + r' = R1) ∧ q' < q) := ⟨⟨by omega, by omega, by omega, j4'⟩, by omega⟩
              clear j1 j2 j3 j4 f1 f2 f3 f4 hqy2 hA2 hE2 hF2 hb hgr hr' hq' j4' hX
              go_wp2_with ((first
                | (refine wpList_val rfl (.bool false) (exec_geqU (.tmp 102) (.const (.int .u64 4294967296)) _ _ rfl q 4294967296 false t1.out .u64 rfl rfl) ?_)
                | (refine wpList_valG rfl (.int .u64 (A2 : Int)) (exec_mulU (.tmp 105) (.tmp 106) _ _ rfl q y2 A2 X.out.1 X.out.2.1 rfl rfl) ?_)
                | (refine wpList_valG rfl (.int .u64 (E2 : Int)) (exec_mulU (.const (.int .u64 4294967296)) (.tmp 108) _ _ rfl 4294967296 r E2 X.out.2.2.1 X.out.2.2.2.1 rfl rfl) ?_)
                | (refine wpList_valG rfl (.int .u64 (F2 : Int)) (exec_addU (.tmp 109) (.tmp 110) _ _ rfl E2 u0 F2 X.out.2.2.2.2.1 X.out.2.2.2.2.2 rfl rfl) ?_)
                | (refine wpList_valG rfl (.bool true) (exec_gtrU (.tmp 107) (.tmp 111) _ _ rfl A2 F2 true t2.out .u64 rfl rfl) ?_)
                | (refine wpList_val rfl (.int .u64 (q' : Int)) (exec_subU (.tmp 114) (.const (.int .u64 1)) _ _ rfl q 1 q' XQ.out.1 XQ.out.2.1 rfl rfl) ?_)
                | (refine wpList_val rfl (.int .u64 (r' : Int)) (exec_addU (.tmp 116) (.tmp 117) _ _ rfl r y1 r' XQ.out.2.2.1 XQ.out.2.2.2 rfl rfl) ?_)
                | (refine wpList_val rfl (.bool false) (exec_geqU (.tmp 119) (.const (.int .u64 4294967296)) _ _ rfl r' 4294967296 false t3.out .u64 rfl rfl) ?_)
                | (refine wpList_skipG rfl ?_)); try simp only [Act.put, List.setIfInBounds_toArray, List.set_cons_succ, List.set_cons_zero])
              go_roundw
              case rel => exact ⟨q', r', rfl, rfl, by first | rfl | trivial, J.out.1⟩
              case measure => have := J.out.2; simp [intOf]; omega
        · have hX : ¬ 4294967296 ≤ q := fun h => ht (.inl h)
          have t1 : Hid (decide (4294967296 ≤ q) = false) := decide_eq_false hX
          obtain ⟨A2, hA2⟩ : ∃ A, q * y2 = A := ⟨_, rfl⟩
          obtain ⟨E2, hE2⟩ : ∃ A, 4294967296 * r = A := ⟨_, rfl⟩
          obtain ⟨F2, hF2⟩ : ∃ A, E2 + u0 = A := ⟨_, rfl⟩
          have X : Hid (q * y2 = A2 ∧ A2 < 18446744073709551616 ∧ 4294967296 * r = E2 ∧ E2 < 18446744073709551616 ∧ E2 + u0 = F2 ∧ F2 < 18446744073709551616) := ⟨hA2, by rw [← hA2]; exact hqy2 (by omega), hE2, by omega, hF2, by omega⟩
          have hle : q * y2 ≤ 4294967296 * r + u0 := by omega
          have t2 : Hid (decide (F2 < A2) = false) := decide_eq_false (by omega)
          have hfin : Hid (q = Q0) := D.out.K2 q r j4 j1 hle
          clear j1 j2 j3 j4 f1 f2 f3 f4 hqy2  ht hle hX hA2 hE2 hF2
          go_wp2_with ((first
            | (refine wpList_val rfl (.bool false) (exec_geqU (.tmp 102) (.const (.int .u64 4294967296)) _ _ rfl q 4294967296 false t1.out .u64 rfl rfl) ?_)
            | (refine wpList_valG rfl (.int .u64 (A2 : Int)) (exec_mulU (.tmp 105) (.tmp 106) _ _ rfl q y2 A2 X.out.1 X.out.2.1 rfl rfl) ?_)
            | (refine wpList_valG rfl (.int .u64 (E2 : Int)) (exec_mulU (.const (.int .u64 4294967296)) (.tmp 108) _ _ rfl 4294967296 r E2 X.out.2.2.1 X.out.2.2.2.1 rfl rfl) ?_)
            | (refine wpList_valG rfl (.int .u64 (F2 : Int)) (exec_addU (.tmp 109) (.tmp 110) _ _ rfl E2 u0 F2 X.out.2.2.2.2.1 X.out.2.2.2.2.2 rfl rfl) ?_)
            | (refine wpList_valG rfl (.bool false) (exec_gtrU (.tmp 107) (.tmp 111) _ _ rfl A2 F2 false t2.out .u64 rfl rfl) ?_)
            | (refine wpList_skipG rfl ?_)); try simp only [Act.put, List.setIfInBounds_toArray, List.set_cons_succ, List.set_cons_zero])
          go_meet
          exact ⟨by rw [hfin.out], rfl⟩
    case rest =>
      obtain ⟨rfl, hwx⟩ := hcut; have hwx' := hwx.symm; clear hwx; subst hwx'
      go_wp2_with ((first
        | (refine wpList_val rfl (.int .u64 (P1 : Int)) (exec_mulU (.tmp 121) (.const (.int .u64 4294967296)) _ _ rfl Q1 4294967296 P1 D.out.XP1 D.out.XB1 rfl rfl) ?_)
        | (refine wpList_val rfl (.int .u64 (P2 : Int)) (exec_addU (.tmp 122) (.tmp 123) _ _ rfl P1 Q0 P2 D.out.XP2 D.out.XB2 rfl rfl) ?_)
        | (refine wpList_val rfl (.int .u64 (T1 : Int)) (exec_mulW (.tmp 125) (.const (.int .u64 4294967296)) _ _ rfl R1 4294967296 T1 D.out.XT1 rfl rfl) ?_)
        | (refine wpList_val rfl (.int .u64 (T2 : Int)) (exec_addW (.tmp 126) (.tmp 127) _ _ rfl T1 u0 T2 D.out.XT2 rfl rfl) ?_)
        | (refine wpList_val rfl (.int .u64 (T3 : Int)) (exec_mulW (.tmp 129) (.tmp 130) _ _ rfl Q0 y T3 D.out.XT3 rfl rfl) ?_)
        | (refine wpList_val rfl (.int .u64 (T4 : Int)) (exec_subW (.tmp 128) (.tmp 131) _ _ rfl T2 T3 T4 D.out.XT4 rfl rfl) ?_)
        | (refine wpList_val rfl (.int .u64 (T5 : Int)) (exec_shr0 (.tmp 132) (.tmp 133) _ _ rfl T4 T5 D.out.XT5 rfl rfl) ?_)); try simp only [Act.put, List.setIfInBounds_toArray, List.set_cons_succ, List.set_cons_zero])
      go_ret2
      have hXP := D.out.XP
      have e : ((P2 : Nat) : Int) = (Q1 : Int) * 4294967296 + Q0 := by omega
      rw [← e]
      exact ⟨⟨.int .u64 T5, rfl⟩, rfl⟩
end Go.Proofs.Ytpfoeeiacfadfaa
