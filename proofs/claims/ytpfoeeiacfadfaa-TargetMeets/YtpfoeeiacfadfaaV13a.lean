/-
  Contracts of the document's twice, Bit, Cmp, Len.
  Conditions: numbers below 2^256.
-/
import Derived.Test.YtpfoeeiacfadfaaV5Z
import Derived.Test.YtpfoeeiacfadfaaV7
import Derived.Test.YtpfoeeiacfadfaaMemZ
import Derived.Test.YtpfoeeiacfadfaaWdZ
namespace Go.Proofs.Ytpfoeeiacfadfaa
open Go.RowKit

theorem exec_mulM {P : Program} {ρ : Operand → Value} {o : Oper} {w : World} (x y : Operand) (T U : TypeId) (ho : o.op = .binOp .mul T x y U) (X Y Z : Nat) (hZ : X * Y % 18446744073709551616 = Z) (hx : ρ x = .int .u64 (X : Int)) (hy : ρ y = .int .u64 (Y : Int)) :
    (execOp ρ o).run P w = .ok (.value (.int .u64 (Z : Int))) w := exec_mulW x y T U ho X Y Z (by rw [← hZ, ← Int.natCast_mul]; rfl) hx hy
theorem exec_addM {P : Program} {ρ : Operand → Value} {o : Oper} {w : World} (x y : Operand) (T U : TypeId) (ho : o.op = .binOp .add T x y U) (X Y Z : Nat) (hZ : (X + Y) % 18446744073709551616 = Z) (hx : ρ x = .int .u64 (X : Int)) (hy : ρ y = .int .u64 (Y : Int)) :
    (execOp ρ o).run P w = .ok (.value (.int .u64 (Z : Int))) w := exec_addW x y T U ho X Y Z (by rw [← hZ, ← Int.natCast_add]; rfl) hx hy
set_option maxHeartbeats 1000000 in
theorem bit_any (a i : Nat) (ha : a < M) (hi : i < 256) (w : World) :
    Calls Try.prog 75 #[wv a, .int .i64 (i : Int)] w fun e w' => e = .returned (.int .u64 ((a / 2 ^ i % 2 : Nat) : Int)) ∧ Below w.heap.size w w' := by
  have hb := bit_word a i ha hi
  obtain ⟨q, eq⟩ : ∃ x, i / 64 = x := ⟨_, rfl⟩
  obtain ⟨r, er⟩ : ∃ x, i % 64 = x := ⟨_, rfl⟩
  rw [eq, er] at hb
  rw [← hb]
  have hq4 : q < 4 := by omega
  have hr : r < 64 := by omega
  obtain ⟨x, ex⟩ : ∃ x, gw (w4 a) q = x := ⟨_, rfl⟩
  have hx : x < 18446744073709551616 := ex ▸ gw_lt a q
  rw [ex]
  obtain ⟨p, ep⟩ : ∃ x, 2 ^ r = x := ⟨_, rfl⟩
  rw [ep]
  obtain ⟨y, ey⟩ : ∃ v, x / p = v := ⟨_, rfl⟩
  rw [ey]
  obtain ⟨z, ez⟩ : ∃ v, y % 2 = v := ⟨_, rfl⟩
  rw [ez]
  have hp : 2 ^ r < 18446744073709551616 := Nat.pow_lt_pow_right (by decide) hr
  have Q : Hid (i / 64 = q) := eq
  have R : Hid (i % 64 = r) := er
  have X : Hid (gw (w4 a) q = x) := ex
  have LX : Hid (x < 18446744073709551616) := hx
  have PP : Hid (1 * 2 ^ r % 18446744073709551616 = p) := by show _ = _; rw [Nat.one_mul, Nat.mod_eq_of_lt hp, ep]
  have P0 : Hid (p ≠ 0) := by show _ ≠ _; rw [← ep]; exact Nat.ne_of_gt (Nat.two_pow_pos r)
  have LR : Hid (r ≤ 64) := by show _ ≤ _; omega
  have LI : Hid (i < 9223372036854775808) := by show _ < _; omega
  have HH : Hid (64 ≠ 0) := by show _ ≠ _; decide
  have H2 : Hid (2 ≠ 0) := by show _ ≠ _; decide
  have Y : Hid (x / p = y) := ey
  have Z : Hid (y % 2 = z) := ez
  clear hb eq er ex hx ep ey ez hp ha hi
  have m := Mem.start w
  go_enter Try.func75, Try.ntmps75
  go_wp2_with ((first
    | (refine W.box m rfl (.tmp 0) rfl a rfl ?_; clear m; intro g2 wx2 m)
    | (refine wpList_val rfl (.int .i64 (q : Int)) (exec_quoN (.tmp 5) (.const (.int .i64 64)) _ _ rfl i 64 q Q.out LI.out HH.out rfl rfl) ?_)
    | (refine W.idx rfl (.tmp 2) (.tmp 6) rfl g2 q .i64 q rfl hq4 rfl rfl ?_)
    | (refine W.get m rfl (.tmp 7) rfl 0 q x rfl hq4 X.out rfl ?_)
    | (refine wpList_val rfl (.int .i64 (r : Int)) (exec_remN (.tmp 9) (.const (.int .i64 64)) _ _ rfl i 64 r R.out HH.out .i64 rfl rfl) ?_)
    | (refine wpList_val rfl (.int .u64 (p : Int)) (exec_shlZ (.const (.int .u64 1)) (.tmp 11) _ _ rfl 1 r p PP.out .u64 r rfl LR.out rfl rfl) ?_)
    | (refine wpList_val rfl (.int .u64 (y : Int)) (exec_quoU (.tmp 8) (.tmp 12) _ _ rfl x p y Y.out LX.out P0.out rfl rfl) ?_)
    | (refine wpList_val rfl (.int .u64 (z : Int)) (exec_remN (.tmp 13) (.const (.int .u64 2)) _ _ rfl y 2 z Z.out H2.out .u64 rfl rfl) ?_)); try simp only [Act.put, List.setIfInBounds_toArray, List.set_cons_succ, List.set_cons_zero])
  go_ret
  exact ⟨rfl, m.below⟩

set_option maxHeartbeats 1000000 in
theorem rlen_any (a : Nat) (ha : a < M) (w : World) :
    Calls Try.prog 60 #[wv a] w fun e w' => e = .returned (.int .i64 (blen a : Nat)) ∧ Below w.heap.size w w' := by
  have HB : Hid (∀ (i : Nat), i < 256 → ∀ w, Calls Try.prog 75 #[wv a, .int .i64 (i : Int)] w fun e w' => e = .returned (.int .u64 ((a / 2 ^ i % 2 : Nat) : Int)) ∧ Below w.heap.size w w') := fun i hi w => bit_any a i ha hi w
  have HM : Hid (a < M) := ha
  have HL : Hid (∀ n, n < 256 → 2 ^ n ≤ a → a < 2 ^ (n + 1) → blen a = n + 1) := fun n hn h1 h2 => blen_of a n ha h1 h2
  have HZ : Hid (a < 1 → blen a = 0) := fun h => by obtain rfl : a = 0 := by omega
                                                    exact blen_zero
  obtain ⟨R, hR⟩ : ∃ R, blen a = R := ⟨_, rfl⟩
  rw [hR] at HL HZ ⊢
  clear ha hR
  have m := Mem.start w
  go_enter Try.func60, Try.ntmps60
  go_wp2_with ((first
    | (refine W.box m rfl (.tmp 0) rfl a rfl ?_; clear m; intro g1 wx1 m)); try simp only [Act.put, List.setIfInBounds_toArray, List.set_cons_succ, List.set_cons_zero])
  go_loopw [3] (fun n wr => ∃ k : Nat, k ≤ 256 ∧ n = .int .i64 (k : Int) ∧ a < 2 ^ k ∧ Mem w wr [⟨g1, 24, c64 (w4 a)⟩]) (fun n _ => (intOf n).toNat)
  case atStart => exact ⟨256, by omega, rfl, HM.out, m⟩
  case round =>
    clear m
    obtain ⟨k, hk, rfl, hak, m⟩ := hrel
    rcases k with _ | n
    · have HR : Hid (R = 0) := HZ.out (by simpa using hak)
      clear hak
      go_wp2
      go_ret
      exact ⟨by rw [HR.out]; rfl, m.below⟩
    · obtain ⟨h1, h2⟩ := len_step a n hak
      have hb := HB.out n (by omega)
      obtain ⟨z, hz⟩ : ∃ z, a / 2 ^ n % 2 = z := ⟨_, rfl⟩
      rw [hz] at h1 h2 hb
      have HBn : Hid (∀ w, Calls Try.prog 75 #[wv a, .int .i64 (n : Int)] w fun e w' => e = .returned (.int .u64 (z : Int)) ∧ Below w.heap.size w w') := hb
      have hn : n < 256 := by omega
      by_cases h0 : z = 0
      · have hlt : Hid (a < 2 ^ n) := h1 h0
        subst h0
        clear h1 h2 hb hz hak
        go_wp2_with ((first
          | (refine wpList_valG rfl (wv a) (W.xload m (Gr.refl _) (.tmp 1) rfl 0 rfl rfl) ?_)
          | (go_at_call 75; refine (HBn.out _).mono ?_; rintro e wx9 ⟨rfl, b9⟩; replace m := m.gr b9; clear b9)); try simp only [Act.put, List.setIfInBounds_toArray, List.set_cons_succ, List.set_cons_zero])
        go_roundw
        case rel => exact ⟨n, by omega, by go_num, hlt.out, m⟩
        case measure => simp [intOf]
      · have HR : Hid (R = n + 1) := HL.out n hn (h2 h0) hak
        have hz1 : ((z : Int) == 0) = false := by simp; omega
        clear h1 h2 hb hz hak h0
        go_wp2_with ((first
          | (refine wpList_valG rfl (wv a) (W.xload m (Gr.refl _) (.tmp 1) rfl 0 rfl rfl) ?_)
          | (go_at_call 75; refine (HBn.out _).mono ?_; rintro e wx9 ⟨rfl, b9⟩; replace m := m.gr b9; clear b9)); try simp only [Act.put, List.setIfInBounds_toArray, List.set_cons_succ, List.set_cons_zero])
        go_ret
        exact ⟨by rw [HR.out]; congr 2, m.below⟩

theorem exec_lssU {P : Program} {ρ : Operand → Value} {o : Oper} {w : World} (x y : Operand) (T U : TypeId) (ho : o.op = .binOp .lss T x y U) (X Y : Nat) (b : Bool) (hb : decide (X < Y) = b) (k : IntKind) (hx : ρ x = .int k (X : Int)) (hy : ρ y = .int k (Y : Int)) :
    (execOp ρ o).run P w = .ok (.value (.bool b)) w := by
  subst hb
  unfold execOp
  simp only [ho, hx, hy, Sem.run_bind, run_eqGuard_no .lss (by decide), Result.andThen_ok, binOp, Op.intCmp, ne_eq, not_true_eq_false, if_false, Sem.run_pure, Int.ofNat_lt]

set_option maxHeartbeats 1000000 in
theorem rcmp_any (a b : Nat) (ha : a < M) (hb : b < M) (w : World) :
    Calls Try.prog 57 #[wv a, wv b] w fun e w' => e = .returned (.int .i64 (cmpN a b)) ∧ Below w.heap.size w w' := by
  have HC : Hid (∀ j, j < 4 → (∀ i, j < i → i < 4 → gw (w4 a) i = gw (w4 b) i) → (gw (w4 a) j < gw (w4 b) j → cmpN a b = -1) ∧ (gw (w4 b) j < gw (w4 a) j → cmpN a b = 1)) := fun j hj hz => by
    obtain ⟨h1, h2⟩ := cmp_word a b j ha hb hj hz
    refine ⟨fun h => ?_, fun h => ?_⟩
    · have := h1 h; unfold cmpN; rw [if_neg (by omega), if_pos this]
    · have := h2 h; unfold cmpN; rw [if_neg (by omega), if_neg (by omega)]
  have HE : Hid ((∀ i, i < 4 → gw (w4 a) i = gw (w4 b) i) → cmpN a b = 0) := fun h => by unfold cmpN; rw [if_pos (same_words a b ha hb h)]
  obtain ⟨R, hR⟩ : ∃ R, cmpN a b = R := ⟨_, rfl⟩
  rw [hR] at HC HE ⊢
  clear ha hb hR
  have m := Mem.start w
  go_enter Try.func57, Try.ntmps57
  go_wp2_with ((first
    | (refine W.box m rfl (.tmp 0) rfl a rfl ?_; clear m; intro g2 wx2 m)
    | (refine W.box m rfl (.tmp 1) rfl b rfl ?_; clear m; intro g3 wx3 m)); try simp only [Act.put, List.setIfInBounds_toArray, List.set_cons_succ, List.set_cons_zero])
  go_loopw [5] (fun n wr => ∃ k : Nat, k ≤ 4 ∧ n = .int .i64 ((k : Int) - 1) ∧ (∀ i, k ≤ i → i < 4 → gw (w4 a) i = gw (w4 b) i) ∧ Mem w wr [⟨g3, 24, c64 (w4 b)⟩, ⟨g2, 24, c64 (w4 a)⟩]) (fun n _ => (intOf n + 1).toNat)
  case atStart => exact ⟨4, by omega, rfl, fun i h1 h2 => by omega, m⟩
  case round =>
    clear m
    obtain ⟨k, hk, hi, hz, m⟩ := hrel
    rcases k with _ | j
    · have hi' := hi.trans (show (Value.int .i64 (((0 : Nat) : Int) - 1)) = .int .i64 (-1) from rfl)
      subst hi'
      have HR : Hid (R = 0) := HE.out (fun i h => hz i (by omega) h)
      clear hz
      go_wp2
      go_ret
      exact ⟨by rw [HR.out]; rfl, m.below⟩
    · have hi' : _ = Value.int .i64 (j : Int) := hi.trans (by congr 1; omega)
      subst hi'
      have hj : j < 4 := by omega
      obtain ⟨c1, c2⟩ := HC.out j hj (fun i h1 h2 => hz i (by omega) h2)
      obtain ⟨x, ex⟩ : ∃ x, gw (w4 a) j = x := ⟨_, rfl⟩
      obtain ⟨y, ey⟩ : ∃ x, gw (w4 b) j = x := ⟨_, rfl⟩
      have EX : Hid (gw (w4 a) j = x) := ex
      have EY : Hid (gw (w4 b) j = y) := ey
      rw [ex, ey] at c1 c2
      by_cases h1 : x < y
      · have T1 : Hid (decide (x < y) = true) := decide_eq_true h1
        have HR : Hid (R = -1) := c1 h1
        clear c1 c2 ex ey hz h1 hi
        go_wp2
        have F := N_fit 24 wr (c64 (w4 0)) (c64 (w4 0)) (fun _ _ _ _ => False) (fun _ _ _ _ _ h => h)
        refine Mild2.wp_region F (by kernel_rfl) (by kernel_rfl) (Vw.draw _) ?_
        iterate 1 (refine Mild2.step_quiet F rfl rfl rfl (fun w0 hC hF K hK => ?_); clear hF; go_big_quiet_op; refine hK _ ?_; clear hK K hC; clear w0)
        refine Mild2.step_known F rfl rfl (.pointer (some ⟨g2, j, none⟩)) (fun w0 hC _ => W.xidx (.tmp 2) (.tmp 10) rfl g2 j .i64 j rfl hj rfl rfl) ?_
        simp only [Act.put, List.setIfInBounds_toArray, List.set_cons_succ, List.set_cons_zero]
        refine Mild2.step_known F rfl rfl (.int .u64 (x : Nat)) (fun w0 hC _ => W.newget m hC (.tmp 11) rfl 1 j x rfl hj EX.out rfl) ?_
        simp only [Act.put, List.setIfInBounds_toArray, List.set_cons_succ, List.set_cons_zero]
        iterate 1 (refine Mild2.step_quiet F rfl rfl rfl (fun w0 hC hF K hK => ?_); clear hF; go_big_quiet_op; refine hK _ ?_; clear hK K hC; clear w0)
        refine Mild2.step_known F rfl rfl (.pointer (some ⟨g3, j, none⟩)) (fun w0 hC _ => W.xidx (.tmp 3) (.tmp 13) rfl g3 j .i64 j rfl hj rfl rfl) ?_
        simp only [Act.put, List.setIfInBounds_toArray, List.set_cons_succ, List.set_cons_zero]
        refine Mild2.step_known F rfl rfl (.int .u64 (y : Nat)) (fun w0 hC _ => W.newget m hC (.tmp 14) rfl 0 j y rfl hj EY.out rfl) ?_
        simp only [Act.put, List.setIfInBounds_toArray, List.set_cons_succ, List.set_cons_zero]
        refine Mild2.step_known F rfl rfl (.bool true) (fun w0 hC _ => exec_lssU (.tmp 12) (.tmp 15) _ _ rfl x y true T1.out .u64 rfl rfl) ?_
        simp only [Act.put, List.setIfInBounds_toArray, List.set_cons_succ, List.set_cons_zero]
        intro w8 hw8 hf8
        replace m := m.oldM hw8
        clear hf8 hw8 F
        go_wp2
        go_ret
        exact ⟨by rw [HR.out]; rfl, m.below⟩
      · have T1 : Hid (decide (x < y) = false) := decide_eq_false h1
        by_cases h2 : y < x
        · have T2 : Hid (decide (y < x) = true) := decide_eq_true h2
          have HR : Hid (R = 1) := c2 h2
          clear c1 c2 ex ey hz h1 h2 hi
          go_wp2
          have F := N_fit 24 wr (c64 (w4 0)) (c64 (w4 0)) (fun _ _ _ _ => False) (fun _ _ _ _ _ h => h)
          refine Mild2.wp_region F (by kernel_rfl) (by kernel_rfl) (Vw.draw _) ?_
          iterate 1 (refine Mild2.step_quiet F rfl rfl rfl (fun w0 hC hF K hK => ?_); clear hF; go_big_quiet_op; refine hK _ ?_; clear hK K hC; clear w0)
          refine Mild2.step_known F rfl rfl (.pointer (some ⟨g2, j, none⟩)) (fun w0 hC _ => W.xidx (.tmp 2) (.tmp 10) rfl g2 j .i64 j rfl hj rfl rfl) ?_
          simp only [Act.put, List.setIfInBounds_toArray, List.set_cons_succ, List.set_cons_zero]
          refine Mild2.step_known F rfl rfl (.int .u64 (x : Nat)) (fun w0 hC _ => W.newget m hC (.tmp 11) rfl 1 j x rfl hj EX.out rfl) ?_
          simp only [Act.put, List.setIfInBounds_toArray, List.set_cons_succ, List.set_cons_zero]
          iterate 1 (refine Mild2.step_quiet F rfl rfl rfl (fun w0 hC hF K hK => ?_); clear hF; go_big_quiet_op; refine hK _ ?_; clear hK K hC; clear w0)
          refine Mild2.step_known F rfl rfl (.pointer (some ⟨g3, j, none⟩)) (fun w0 hC _ => W.xidx (.tmp 3) (.tmp 13) rfl g3 j .i64 j rfl hj rfl rfl) ?_
          simp only [Act.put, List.setIfInBounds_toArray, List.set_cons_succ, List.set_cons_zero]
          refine Mild2.step_known F rfl rfl (.int .u64 (y : Nat)) (fun w0 hC _ => W.newget m hC (.tmp 14) rfl 0 j y rfl hj EY.out rfl) ?_
          simp only [Act.put, List.setIfInBounds_toArray, List.set_cons_succ, List.set_cons_zero]
          refine Mild2.step_known F rfl rfl (.bool false) (fun w0 hC _ => exec_lssU (.tmp 12) (.tmp 15) _ _ rfl x y false T1.out .u64 rfl rfl) ?_
          simp only [Act.put, List.setIfInBounds_toArray, List.set_cons_succ, List.set_cons_zero]
          intro w8 hw8 hf8
          replace m := m.oldM hw8
          clear hf8 hw8 F
          go_wp2
          have F := N_fit 24 w8 (c64 (w4 0)) (c64 (w4 0)) (fun _ _ _ _ => False) (fun _ _ _ _ _ h => h)
          refine Mild2.wp_region F (by kernel_rfl) (by kernel_rfl) (Vw.draw _) ?_
          iterate 1 (refine Mild2.step_quiet F rfl rfl rfl (fun w0 hC hF K hK => ?_); clear hF; go_big_quiet_op; refine hK _ ?_; clear hK K hC; clear w0)
          refine Mild2.step_known F rfl rfl (.pointer (some ⟨g2, j, none⟩)) (fun w0 hC _ => W.xidx (.tmp 2) (.tmp 17) rfl g2 j .i64 j rfl hj rfl rfl) ?_
          simp only [Act.put, List.setIfInBounds_toArray, List.set_cons_succ, List.set_cons_zero]
          refine Mild2.step_known F rfl rfl (.int .u64 (x : Nat)) (fun w0 hC _ => W.newget m hC (.tmp 18) rfl 1 j x rfl hj EX.out rfl) ?_
          simp only [Act.put, List.setIfInBounds_toArray, List.set_cons_succ, List.set_cons_zero]
          iterate 1 (refine Mild2.step_quiet F rfl rfl rfl (fun w0 hC hF K hK => ?_); clear hF; go_big_quiet_op; refine hK _ ?_; clear hK K hC; clear w0)
          refine Mild2.step_known F rfl rfl (.pointer (some ⟨g3, j, none⟩)) (fun w0 hC _ => W.xidx (.tmp 3) (.tmp 20) rfl g3 j .i64 j rfl hj rfl rfl) ?_
          simp only [Act.put, List.setIfInBounds_toArray, List.set_cons_succ, List.set_cons_zero]
          refine Mild2.step_known F rfl rfl (.int .u64 (y : Nat)) (fun w0 hC _ => W.newget m hC (.tmp 21) rfl 0 j y rfl hj EY.out rfl) ?_
          simp only [Act.put, List.setIfInBounds_toArray, List.set_cons_succ, List.set_cons_zero]
          refine Mild2.step_known F rfl rfl (.bool true) (fun w0 hC _ => exec_gtrU (.tmp 19) (.tmp 22) _ _ rfl x y true T2.out .u64 rfl rfl) ?_
          simp only [Act.put, List.setIfInBounds_toArray, List.set_cons_succ, List.set_cons_zero]
          intro w9 hw8 hf8
          replace m := m.oldM hw8
          clear hf8 hw8 F
          go_wp2
          go_ret
          exact ⟨by rw [HR.out]; rfl, m.below⟩
        · have T2 : Hid (decide (y < x) = false) := decide_eq_false h2
          have HZ : Hid (∀ i, j ≤ i → i < 4 → gw (w4 a) i = gw (w4 b) i) := fun i i1 i2 => by
            by_cases h : i = j
            · rw [h, ex, ey]; omega
            · exact hz i (by omega) i2
          clear c1 c2 ex ey hz h1 h2 hi
          go_wp2
          have F := N_fit 24 wr (c64 (w4 0)) (c64 (w4 0)) (fun _ _ _ _ => False) (fun _ _ _ _ _ h => h)
          refine Mild2.wp_region F (by kernel_rfl) (by kernel_rfl) (Vw.draw _) ?_
          iterate 1 (refine Mild2.step_quiet F rfl rfl rfl (fun w0 hC hF K hK => ?_); clear hF; go_big_quiet_op; refine hK _ ?_; clear hK K hC; clear w0)
          refine Mild2.step_known F rfl rfl (.pointer (some ⟨g2, j, none⟩)) (fun w0 hC _ => W.xidx (.tmp 2) (.tmp 10) rfl g2 j .i64 j rfl hj rfl rfl) ?_
          simp only [Act.put, List.setIfInBounds_toArray, List.set_cons_succ, List.set_cons_zero]
          refine Mild2.step_known F rfl rfl (.int .u64 (x : Nat)) (fun w0 hC _ => W.newget m hC (.tmp 11) rfl 1 j x rfl hj EX.out rfl) ?_
          simp only [Act.put, List.setIfInBounds_toArray, List.set_cons_succ, List.set_cons_zero]
          iterate 1 (refine Mild2.step_quiet F rfl rfl rfl (fun w0 hC hF K hK => ?_); clear hF; go_big_quiet_op; refine hK _ ?_; clear hK K hC; clear w0)
          refine Mild2.step_known F rfl rfl (.pointer (some ⟨g3, j, none⟩)) (fun w0 hC _ => W.xidx (.tmp 3) (.tmp 13) rfl g3 j .i64 j rfl hj rfl rfl) ?_
          simp only [Act.put, List.setIfInBounds_toArray, List.set_cons_succ, List.set_cons_zero]
          refine Mild2.step_known F rfl rfl (.int .u64 (y : Nat)) (fun w0 hC _ => W.newget m hC (.tmp 14) rfl 0 j y rfl hj EY.out rfl) ?_
          simp only [Act.put, List.setIfInBounds_toArray, List.set_cons_succ, List.set_cons_zero]
          refine Mild2.step_known F rfl rfl (.bool false) (fun w0 hC _ => exec_lssU (.tmp 12) (.tmp 15) _ _ rfl x y false T1.out .u64 rfl rfl) ?_
          simp only [Act.put, List.setIfInBounds_toArray, List.set_cons_succ, List.set_cons_zero]
          intro w8 hw8 hf8
          replace m := m.oldM hw8
          clear hf8 hw8 F
          go_wp2
          have F := N_fit 24 w8 (c64 (w4 0)) (c64 (w4 0)) (fun _ _ _ _ => False) (fun _ _ _ _ _ h => h)
          refine Mild2.wp_region F (by kernel_rfl) (by kernel_rfl) (Vw.draw _) ?_
          iterate 1 (refine Mild2.step_quiet F rfl rfl rfl (fun w0 hC hF K hK => ?_); clear hF; go_big_quiet_op; refine hK _ ?_; clear hK K hC; clear w0)
          refine Mild2.step_known F rfl rfl (.pointer (some ⟨g2, j, none⟩)) (fun w0 hC _ => W.xidx (.tmp 2) (.tmp 17) rfl g2 j .i64 j rfl hj rfl rfl) ?_
          simp only [Act.put, List.setIfInBounds_toArray, List.set_cons_succ, List.set_cons_zero]
          refine Mild2.step_known F rfl rfl (.int .u64 (x : Nat)) (fun w0 hC _ => W.newget m hC (.tmp 18) rfl 1 j x rfl hj EX.out rfl) ?_
          simp only [Act.put, List.setIfInBounds_toArray, List.set_cons_succ, List.set_cons_zero]
          iterate 1 (refine Mild2.step_quiet F rfl rfl rfl (fun w0 hC hF K hK => ?_); clear hF; go_big_quiet_op; refine hK _ ?_; clear hK K hC; clear w0)
          refine Mild2.step_known F rfl rfl (.pointer (some ⟨g3, j, none⟩)) (fun w0 hC _ => W.xidx (.tmp 3) (.tmp 20) rfl g3 j .i64 j rfl hj rfl rfl) ?_
          simp only [Act.put, List.setIfInBounds_toArray, List.set_cons_succ, List.set_cons_zero]
          refine Mild2.step_known F rfl rfl (.int .u64 (y : Nat)) (fun w0 hC _ => W.newget m hC (.tmp 21) rfl 0 j y rfl hj EY.out rfl) ?_
          simp only [Act.put, List.setIfInBounds_toArray, List.set_cons_succ, List.set_cons_zero]
          refine Mild2.step_known F rfl rfl (.bool false) (fun w0 hC _ => exec_gtrU (.tmp 19) (.tmp 22) _ _ rfl x y false T2.out .u64 rfl rfl) ?_
          simp only [Act.put, List.setIfInBounds_toArray, List.set_cons_succ, List.set_cons_zero]
          intro w9 hw8 hf8
          replace m := m.oldM hw8
          clear hf8 hw8 F
          go_wp2
          go_roundw
          case rel => exact ⟨j, by omega, by go_num, HZ.out, m⟩
          case measure => simp [intOf]

end Go.Proofs.Ytpfoeeiacfadfaa
