/-
  Contract of package wide's Shl.
  Conditions: numbers below 2^256.
-/
import Derived.Test.YtpfoeeiacfadfaaV1
import Derived.Test.YtpfoeeiacfadfaaMild2Z
import Derived.Test.YtpfoeeiacfadfaaWdZ
namespace Go.Proofs.Ytpfoeeiacfadfaa
open Go.RowKit

set_option maxHeartbeats 1000000 in
theorem shl_any (a : Nat) (ha : a < M) (z : Int) (hz2 : z < 9223372036854775808) (w : World) :
    Calls Try.prog 80 #[wv a, .int .i64 z] w fun e w' => e = .returned (wv (a * 2 ^ z.toNat % M)) ∧ Below w.heap.size w w' := by
  have hA := shlT_all a z.toNat ha
  have HL : Hid (∀ i, gw (w4 a) i < 18446744073709551616) := gw_lt a
  have hl : (w4 a).length = 4 := w4_length a
  have hN : z.toNat < 9223372036854775808 := by omega
  unfold wv
  rw [← hA]
  clear hA hz2 ha
  generalize w4 a = l at *
  obtain ⟨N, hNe⟩ : ∃ N, z.toNat = N := ⟨_, rfl⟩
  rw [hNe] at hN ⊢
  obtain ⟨q, hq⟩ : ∃ q, N / 64 = q := ⟨_, rfl⟩
  obtain ⟨r, hr⟩ : ∃ r, N % 64 = r := ⟨_, rfl⟩
  have hr64 : r < 64 := by omega
  have hq63 : q < 144115188075855872 := by omega
  rw [hq, hr]
  have XQ : Hid (N / 64 = q) := hq
  have XR : Hid (N % 64 = r) := hr
  have XN : Hid (z.toNat = N) := hNe
  have XL : Hid (N < 9223372036854775808) := hN
  clear hq hr hNe hN
  go_enter Try.func80, Try.ntmps80
  go_wp2_with ((first
    | (refine wpList_box_arr rfl _ (.tmp 0) rfl (c64 l) rfl ?_; intro g2 w2 hg2 ha2 hb2)
    | (refine wpList_alloc_arr Try.aw rfl rfl 4 rfl ?_; rw [zeros4']; intro g4 wb4 hg4 ha4 hb4)
    | (refine wpList_val rfl (.int .i64 (z.toNat : Int)) (exec_max0 (.tmp 9) (.const (.int .i64 0)) _ rfl z rfl rfl) ?_; rw [XN.out])
    | (refine wpList_val rfl (.int .i64 (q : Int)) (exec_quoN (.tmp 11) (.const (.int .i64 64)) _ _ rfl N 64 q XQ.out XL.out (by decide) rfl rfl) ?_)
    | (refine wpList_val rfl (.int .i64 (r : Int)) (exec_remN (.tmp 13) (.const (.int .i64 64)) _ _ rfl N 64 r XR.out (by decide) .i64 rfl rfl) ?_)
    | (refine wpList_alloc_arr Try.aw rfl rfl 7 rfl ?_; rw [zeros4']; intro g7 w7 hg7 ha7 hb7)); try simp only [Act.put, List.setIfInBounds_toArray, List.set_cons_succ, List.set_cons_zero])
  have n27 : g2 ≠ g7 := by have := (ha2.gr hb4).lt; omega
  have n47 : g4 ≠ g7 := by have := ha4.lt; omega
  have k7 : w.heap.size ≤ g7 := by have := hb2.size; have := hb4.size; omega
  have k4 : w.heap.size ≤ g4 := by have := hb2.size; omega
  have a2 := (ha2.gr hb4).gr hb7
  have a4 := ha4.gr hb7
  have hB : Below w.heap.size w w7 := Gr.trans (Gr.trans hb2 hb4) hb7
  clear ha2 ha4 hb2 hb4 hb7 hg2 hg4 hg7
  go_loopw [8] (fun i wr => ∃ k : Nat, q ≤ k ∧ (k ≤ 4 ∨ k = q) ∧ i = .int .i64 k ∧ Arr 24 wr g7 (c64 (shlT l q r k)) ∧ Arr 24 wr g2 (c64 l) ∧ Arr 24 wr g4 (c64 [0, 0, 0, 0]) ∧ Below w.heap.size w wr) (fun i _ => 4 - (intOf i).toNat)
  case atStart => exact ⟨q, Nat.le_refl _, .inr rfl, rfl, by rw [shlT_low l q r q (Nat.le_refl _)]; exact ha7, a2, a4, hB⟩
  case round =>
    obtain ⟨k, hqk, hk, rfl, r7, r2, r4, hb⟩ := hrel
    clear ha7 a2 a4 hB
    have hs4 := shlT_length l q r k
    have hs7 : (c64 (shlT l q r k)).length = 4 := by rw [c64_length]; exact hs4
    by_cases hlt : k < 4
    · obtain ⟨j, hj⟩ : ∃ j, k - q = j := ⟨_, rfl⟩
      have hjk : (k : Int) - (q : Int) = (j : Int) := by omega
      have hj4 : j < 4 := by omega
      obtain ⟨x, hx⟩ : ∃ x, gw l j = x := ⟨_, rfl⟩
      obtain ⟨X, hX⟩ : ∃ X, x * 2 ^ r % 18446744073709551616 = X := ⟨_, rfl⟩
      have hgx : (c64 l)[j]? = some (.int .u64 (x : Nat)) := by rw [c64_gw (by omega), hx]
      have HX : Hid (x * 2 ^ r % 18446744073709551616 = X) := hX
      have hr' : r ≤ 64 := by omega
      have HR : Hid (r ≤ 64) := hr'
      have HJ : Hid ((k : Int) - (q : Int) = (j : Int)) := hjk
      have HJ4 : Hid (-9223372036854775808 ≤ (j : Int) ∧ (j : Int) < 9223372036854775808) := ⟨by omega, by omega⟩
      by_cases hqk' : q < k
      · obtain ⟨y, hy⟩ : ∃ y, gw l (j - 1) = y := ⟨_, rfl⟩
        obtain ⟨Y, hY⟩ : ∃ Y, y / 2 ^ (64 - r) = Y := ⟨_, rfl⟩
        obtain ⟨Z, hZ⟩ : ∃ Z, X ||| Y = Z := ⟨_, rfl⟩
        have hgy : (c64 l)[j - 1]? = some (.int .u64 (y : Nat)) := by rw [c64_gw (by omega), hy]
        have hyl : y < 18446744073709551616 := hy ▸ HL.out _
        have hYl : Y < 18446744073709551616 := by rw [← hY]; exact Nat.lt_of_le_of_lt (Nat.div_le_self _ _) hyl
        have hXl : X < 18446744073709551616 := by rw [← hX]; exact Nat.mod_lt _ (by decide)
        obtain ⟨T1, hT1⟩ : ∃ T, (shlT l q r k).set k X = T := ⟨_, rfl⟩
        have hT2 : T1.set k Z = shlT l q r (k + 1) := by
          simp only [shlT]
          rw [if_pos hqk, ← hT1, List.set_set]
          simp only [shlD]
          rw [if_pos hqk', show k - q = j from hj, hx, hX, hy, hY, hZ]
        have HT1 : Hid ((c64 (shlT l q r k)).set k (.int .u64 (X : Nat)) = c64 T1) := by show _ = _; rw [c64_set, hT1]
        have HT2 : Hid (c64 (shlT l q r (k + 1)) = (c64 T1).set k (.int .u64 (Z : Nat))) := by show _ = _; rw [c64_set, hT2]
        have lT1 : (c64 T1).length = 4 := by rw [c64_length, ← hT1]; simp [hs4]
        have gT1 : (c64 T1)[k]? = some (.int .u64 (X : Nat)) := by rw [← HT1.out]; simp [hs7, hlt]
        have HY : Hid (y / 2 ^ (64 - r) = Y) := hY
        have HZ : Hid (X ||| Y = Z) := hZ
        have B1 : Hid (X < 18446744073709551616) := hXl
        have B2 : Hid (Y < 18446744073709551616) := hYl
        have HJ1 : Hid ((j : Int) - 1 = ((j - 1 : Nat) : Int)) := by show _ = _; omega
        have HB1 : Hid (-9223372036854775808 ≤ ((j - 1 : Nat) : Int) ∧ ((j - 1 : Nat) : Int) < 9223372036854775808) := ⟨by omega, by omega⟩
        have HSR : Hid ((64 : Int) - (r : Int) = ((64 - r : Nat) : Int)) := by show _ = _; omega
        have HSB : Hid (-9223372036854775808 ≤ ((64 - r : Nat) : Int) ∧ ((64 - r : Nat) : Int) < 9223372036854775808) := ⟨by omega, by omega⟩
        have hj1 : j - 1 < 4 := by omega
        clear hX hY hZ hXl hYl hyl hx hy hT1 hT2 hj hs4
        generalize j - 1 = j1 at *
        obtain ⟨sr, hsr⟩ : ∃ s, 64 - r = s := ⟨_, rfl⟩
        rw [hsr] at HY HSR HSB
        have hsr64 : sr ≤ 64 := by omega
        clear hsr
        go_wp2_with ((first
          | (refine wpList_val rfl (.int .i64 (j : Int)) (exec_subI (.tmp 21) (.tmp 22) _ _ rfl k q j HJ.out HJ4.out.1 HJ4.out.2 rfl rfl) ?_)
          | (refine wpList_indexAt_arr Try.aw rfl (.tmp 2) (.tmp 23) rfl g2 j .i64 j rfl hj4 rfl rfl ?_)
          | (refine wpList_get Try.u64 rfl (.tmp 24) rfl g2 j (c64 l) (.int .u64 (x : Nat)) r2 hgx rfl ?_)
          | (refine wpList_val rfl (.int .u64 (X : Int)) (exec_shlZ (.tmp 25) (.tmp 26) _ _ rfl x r X HX.out .i64 r rfl HR.out rfl rfl) ?_)
          | (refine wpList_indexAt_arr Try.aw rfl (.tmp 7) (.tmp 20) rfl g7 k .i64 k rfl hlt rfl rfl ?_)
          | (refine wpList_store_cell rfl 22 (.tmp 28) (.tmp 27) rfl rfl Try.one64 g7 k (c64 (shlT l q r k)) (.int .u64 (X : Nat)) (by omega) rfl rfl rfl 24 r7 ?_; rw [HT1.out]; intro w8 r8 b8)); try simp only [Act.put, List.setIfInBounds_toArray, List.set_cons_succ, List.set_cons_zero])
        have R7 : Hid (Arr 24 w8 g7 (c64 T1)) := r8
        have R2 : Hid (Arr 24 w8 g2 (c64 l)) := r2.but b8 n27
        have R4 : Hid (Arr 24 w8 g4 (c64 [0, 0, 0, 0])) := r4.but b8 n47
        have HB : Hid (Below w.heap.size w w8) := hb.trans (b8.below k7)
        clear r8 b8 r2 r4 r7 hb
        have F := W_fit 24 (V1 g7 (c64 T1) (c64 (shlT l q r (k + 1)))) V1_trans w8 (fun _ _ _ _ => False) (fun _ _ _ _ _ h => h)
        refine Mild3.wp_region F (by kernel_rfl) (by kernel_rfl) (Below.drewN' _ _ 1) ?_
        iterate 1 (refine Mild3.step_quiet F rfl rfl rfl (by kernel_rfl) rfl (fun w0 hC hF K hK => ?_); clear hF; go_big_quiet_op; refine hK _ ?_; clear hK K hC; clear w0)
        refine Mild3.step_known F rfl rfl (by kernel_rfl) rfl (.pointer (some ⟨g7, k, none⟩)) (fun w0 hC _ => exec_indexAt_arr Try.aw (.tmp 7) (.tmp 32) rfl g7 k .i64 k rfl hlt rfl rfl) ?_
        simp only [Act.put, List.setIfInBounds_toArray, List.set_cons_succ, List.set_cons_zero]
        refine Mild3.step_known F rfl rfl (by kernel_rfl) rfl (.int .u64 (X : Nat)) (fun w0 hC _ => exec_get Try.u64 (.tmp 33) rfl g7 k (c64 T1) _ (R7.out.gr hC) gT1 rfl) ?_
        simp only [Act.put, List.setIfInBounds_toArray, List.set_cons_succ, List.set_cons_zero]
        iterate 2 (refine Mild3.step_quiet F rfl rfl rfl (by kernel_rfl) rfl (fun w0 hC hF K hK => ?_); clear hF; go_big_quiet_op; refine hK _ ?_; clear hK K hC; clear w0)
        refine Mild3.step_known F rfl rfl (by kernel_rfl) rfl (.int .i64 (j : Int)) (fun w0 hC _ => exec_subI (.tmp 35) (.tmp 36) _ _ rfl k q j HJ.out HJ4.out.1 HJ4.out.2 rfl rfl) ?_
        simp only [Act.put, List.setIfInBounds_toArray, List.set_cons_succ, List.set_cons_zero]
        refine Mild3.step_known F rfl rfl (by kernel_rfl) rfl (.int .i64 (j1 : Int)) (fun w0 hC _ => exec_subI (.tmp 37) (.const (.int .i64 1)) _ _ rfl j 1 j1 HJ1.out HB1.out.1 HB1.out.2 rfl rfl) ?_
        simp only [Act.put, List.setIfInBounds_toArray, List.set_cons_succ, List.set_cons_zero]
        refine Mild3.step_known F rfl rfl (by kernel_rfl) rfl (.pointer (some ⟨g2, j1, none⟩)) (fun w0 hC _ => exec_indexAt_arr Try.aw (.tmp 2) (.tmp 38) rfl g2 j1 .i64 j1 rfl hj1 rfl rfl) ?_
        simp only [Act.put, List.setIfInBounds_toArray, List.set_cons_succ, List.set_cons_zero]
        refine Mild3.step_known F rfl rfl (by kernel_rfl) rfl (.int .u64 (y : Nat)) (fun w0 hC _ => exec_get Try.u64 (.tmp 39) rfl g2 j1 (c64 l) _ (R2.out.gr hC) hgy rfl) ?_
        simp only [Act.put, List.setIfInBounds_toArray, List.set_cons_succ, List.set_cons_zero]
        iterate 1 (refine Mild3.step_quiet F rfl rfl rfl (by kernel_rfl) rfl (fun w0 hC hF K hK => ?_); clear hF; go_big_quiet_op; refine hK _ ?_; clear hK K hC; clear w0)
        refine Mild3.step_known F rfl rfl (by kernel_rfl) rfl (.int .i64 (sr : Int)) (fun w0 hC _ => exec_subI (.const (.int .i64 64)) (.tmp 41) _ _ rfl 64 r sr HSR.out HSB.out.1 HSB.out.2 rfl rfl) ?_
        simp only [Act.put, List.setIfInBounds_toArray, List.set_cons_succ, List.set_cons_zero]
        refine Mild3.step_known F rfl rfl (by kernel_rfl) rfl (.int .u64 (Y : Nat)) (fun w0 hC _ => exec_shrZ (.tmp 40) (.tmp 42) _ _ rfl y sr Y HY.out .i64 sr rfl hsr64 rfl rfl) ?_
        simp only [Act.put, List.setIfInBounds_toArray, List.set_cons_succ, List.set_cons_zero]
        refine Mild3.step_known F rfl rfl (by kernel_rfl) rfl (.int .u64 (Z : Nat)) (fun w0 hC _ => exec_or (.tmp 34) (.tmp 43) _ _ rfl X Y Z HZ.out B1.out B2.out rfl rfl) ?_
        simp only [Act.put, List.setIfInBounds_toArray, List.set_cons_succ, List.set_cons_zero]
        refine Mild3.step_known F rfl rfl (by kernel_rfl) rfl (.pointer (some ⟨g7, k, none⟩)) (fun w0 hC _ => exec_indexAt_arr Try.aw (.tmp 7) (.tmp 32) rfl g7 k .i64 k rfl hlt rfl rfl) ?_
        simp only [Act.put, List.setIfInBounds_toArray, List.set_cons_succ, List.set_cons_zero]
        refine Mild3.step_note rfl rfl rfl (fun w => Arr 24 w g7 (c64 (shlT l q r (k + 1)))) (Vw.new1) (fun w0 hC hF => store_cellV ⟨rfl, rfl, rfl⟩ (hC.turn1 R7.out) _ HT2.out (by omega) rfl 22 (.tmp 45) (.tmp 44) rfl Try.one64 rfl rfl) ?_
        intro w9 hw9 hf9
        have r7' : Arr 24 w9 g7 (c64 (shlT l q r (k + 1))) := (hf9 none).2 rfl
        have r2' := hw9.keep1 R2.out n27
        have r4' := hw9.keep1 R4.out n47
        have hb9 := HB.out.trans (hw9.below (B := w.heap.size) (fun _ _ _ hv => hv.1 ▸ k7) HB.out.size)
        clear hf9 hw9 F HJ HJ4 HJ1 HB1 HSR HSB
        go_wp2
        go_roundw
        case rel => exact ⟨k + 1, by omega, by omega, by go_num, r7', r2', r4', hb9⟩
        case measure => simp [intOf]; omega
      · have hqe : k = q := by omega
        have hT2 : (shlT l q r k).set k X = shlT l q r (k + 1) := by
          simp only [shlT]
          rw [if_pos hqk]
          simp only [shlD]
          rw [if_neg hqk', show k - q = j from hj, hx, hX]
        have HT1 : Hid ((c64 (shlT l q r k)).set k (.int .u64 (X : Nat)) = c64 (shlT l q r (k + 1))) := by show _ = _; rw [c64_set, hT2]
        have hng : ¬ ((q : Int) < (k : Int)) := by omega
        clear hX hx hj hs4 hT2 hqk'
        go_wp2_with ((first
          | (refine wpList_val rfl (.int .i64 (j : Int)) (exec_subI (.tmp 21) (.tmp 22) _ _ rfl k q j HJ.out HJ4.out.1 HJ4.out.2 rfl rfl) ?_)
          | (refine wpList_indexAt_arr Try.aw rfl (.tmp 2) (.tmp 23) rfl g2 j .i64 j rfl hj4 rfl rfl ?_)
          | (refine wpList_get Try.u64 rfl (.tmp 24) rfl g2 j (c64 l) (.int .u64 (x : Nat)) r2 hgx rfl ?_)
          | (refine wpList_val rfl (.int .u64 (X : Int)) (exec_shlZ (.tmp 25) (.tmp 26) _ _ rfl x r X HX.out .i64 r rfl HR.out rfl rfl) ?_)
          | (refine wpList_indexAt_arr Try.aw rfl (.tmp 7) (.tmp 20) rfl g7 k .i64 k rfl hlt rfl rfl ?_)
          | (refine wpList_store_cell rfl 22 (.tmp 28) (.tmp 27) rfl rfl Try.one64 g7 k (c64 (shlT l q r k)) (.int .u64 (X : Nat)) (by omega) rfl rfl rfl 24 r7 ?_; rw [HT1.out]; intro w8 r8 b8)); try simp only [Act.put, List.setIfInBounds_toArray, List.set_cons_succ, List.set_cons_zero])
        go_roundw
        case rel => exact ⟨k + 1, by omega, by omega, by go_num, r8, r2.but b8 n27, r4.but b8 n47, hb.trans (b8.below k7)⟩
        case measure => simp [intOf]; omega
    · have e : shlT l q r k = shlT l q r 4 := by
        by_cases h : k = 4
        · rw [h]
        · rw [shlT_low l q r k (by omega), shlT_low l q r 4 (by omega)]
      rw [e] at r7 hs7
      clear e hs4
      go_wp2_with ((first
        | (refine wpList_load_arr Try.aw rfl (.tmp 7) rfl g7 _ hs7 rfl r7 ?_)
        | (refine wpList_store_arr Try.aw rfl (.tmp 4) (.tmp 46) rfl rfl g4 _ (c64 (shlT l q r 4)) rfl hs7 (c64_one _) rfl rfl r4 ?_; intro w9 r9 b9)); try simp only [Act.put, List.setIfInBounds_toArray, List.set_cons_succ, List.set_cons_zero])
      refine bodyPost_ret (results_arr Try.aw Try.results80 _ w9 g4 _ hs7 rfl r9) rfl ⟨rfl, hb.trans (b9.below k4)⟩
end Go.Proofs.Ytpfoeeiacfadfaa
/-
  Contract of package wide's Shr.
  Conditions: numbers below 2^256.
-/
namespace Go.Proofs.Ytpfoeeiacfadfaa
open Go.RowKit

theorem exec_addI {P : Program} {ρ : Operand → Value} {o : Oper} {w : World} (x y : Operand) (T U : TypeId) (ho : o.op = .binOp .add T x y U) (X Y Z : Int) (hZ : X + Y = Z) (h1 : -9223372036854775808 ≤ Z) (h2 : Z < 9223372036854775808) (hx : ρ x = .int .i64 X) (hy : ρ y = .int .i64 Y) :
    (execOp ρ o).run P w = .ok (.value (.int .i64 Z)) w := by
  subst hZ
  unfold execOp
  simp only [ho, hx, hy, Sem.run_bind, run_eqGuard_no .add (by decide), Result.andThen_ok, binOp, Op.intArith, ne_eq, not_true_eq_false, if_false, Sem.run_pure]
  rw [wrap_small _ h1 h2]

set_option maxHeartbeats 1000000 in
theorem shr_any (a : Nat) (ha : a < M) (z : Int) (hz2 : z < 9223372036854775808) (w : World) :
    Calls Try.prog 79 #[wv a, .int .i64 z] w fun e w' => e = .returned (wv (a / 2 ^ z.toNat)) ∧ Below w.heap.size w w' := by
  have hA := shrT_all a z.toNat ha
  have HL : Hid (∀ i, gw (w4 a) i < 18446744073709551616) := gw_lt a
  have hl : (w4 a).length = 4 := w4_length a
  have hN : z.toNat < 9223372036854775808 := by omega
  unfold wv
  rw [← hA]
  clear hA hz2 ha
  generalize w4 a = l at *
  obtain ⟨N, hNe⟩ : ∃ N, z.toNat = N := ⟨_, rfl⟩
  rw [hNe] at hN ⊢
  obtain ⟨q, hq⟩ : ∃ q, N / 64 = q := ⟨_, rfl⟩
  obtain ⟨r, hr⟩ : ∃ r, N % 64 = r := ⟨_, rfl⟩
  have hr64 : r < 64 := by omega
  have hq63 : q < 144115188075855872 := by omega
  rw [hq, hr]
  have XQ : Hid (N / 64 = q) := hq
  have XR : Hid (N % 64 = r) := hr
  have XN : Hid (z.toNat = N) := hNe
  have XL : Hid (N < 9223372036854775808) := hN
  clear hq hr hNe hN
  go_enter Try.func79, Try.ntmps79
  go_wp2_with ((first
    | (refine wpList_box_arr rfl _ (.tmp 0) rfl (c64 l) rfl ?_; intro g2 w2 hg2 ha2 hb2)
    | (refine wpList_alloc_arr Try.aw rfl rfl 4 rfl ?_; rw [zeros4']; intro g4 wb4 hg4 ha4 hb4)
    | (refine wpList_val rfl (.int .i64 (z.toNat : Int)) (exec_max0 (.tmp 9) (.const (.int .i64 0)) _ rfl z rfl rfl) ?_; rw [XN.out])
    | (refine wpList_val rfl (.int .i64 (q : Int)) (exec_quoN (.tmp 11) (.const (.int .i64 64)) _ _ rfl N 64 q XQ.out XL.out (by decide) rfl rfl) ?_)
    | (refine wpList_val rfl (.int .i64 (r : Int)) (exec_remN (.tmp 13) (.const (.int .i64 64)) _ _ rfl N 64 r XR.out (by decide) .i64 rfl rfl) ?_)
    | (refine wpList_alloc_arr Try.aw rfl rfl 7 rfl ?_; rw [zeros4']; intro g7 w7 hg7 ha7 hb7)); try simp only [Act.put, List.setIfInBounds_toArray, List.set_cons_succ, List.set_cons_zero])
  have n27 : g2 ≠ g7 := by have := (ha2.gr hb4).lt; omega
  have n47 : g4 ≠ g7 := by have := ha4.lt; omega
  have k7 : w.heap.size ≤ g7 := by have := hb2.size; have := hb4.size; omega
  have k4 : w.heap.size ≤ g4 := by have := hb2.size; omega
  have a2 := (ha2.gr hb4).gr hb7
  have a4 := ha4.gr hb7
  have hB : Below w.heap.size w w7 := Gr.trans (Gr.trans hb2 hb4) hb7
  clear ha2 ha4 hb2 hb4 hb7 hg2 hg4 hg7
  go_loopw [8] (fun i wr => ∃ k : Nat, q ≤ k ∧ (k ≤ 4 ∨ k = q) ∧ i = .int .i64 k ∧ Arr 24 wr g7 (c64 (shrT l q r k)) ∧ Arr 24 wr g2 (c64 l) ∧ Arr 24 wr g4 (c64 [0, 0, 0, 0]) ∧ Below w.heap.size w wr) (fun i _ => 4 - (intOf i).toNat)
  case atStart => exact ⟨q, Nat.le_refl _, .inr rfl, rfl, by rw [shrT_low l q r q (Nat.le_refl _)]; exact ha7, a2, a4, hB⟩
  case round =>
    obtain ⟨k, hqk, hk, rfl, r7, r2, r4, hb⟩ := hrel
    clear ha7 a2 a4 hB
    have hs4 := shrT_length l q r k
    have hs7 : (c64 (shrT l q r k)).length = 4 := by rw [c64_length]; exact hs4
    by_cases hlt : k < 4
    · obtain ⟨j, hj⟩ : ∃ j, k - q = j := ⟨_, rfl⟩
      have hjk : (k : Int) - (q : Int) = (j : Int) := by omega
      have hj4 : j < 4 := by omega
      obtain ⟨x, hx⟩ : ∃ x, gw l k = x := ⟨_, rfl⟩
      obtain ⟨X, hX⟩ : ∃ X, x / 2 ^ r = X := ⟨_, rfl⟩
      have hxl : x < 18446744073709551616 := hx ▸ HL.out _
      have hXl : X < 18446744073709551616 := by rw [← hX]; exact Nat.lt_of_le_of_lt (Nat.div_le_self _ _) hxl
      have hgx : (c64 l)[k]? = some (.int .u64 (x : Nat)) := by rw [c64_gw (by omega), hx]
      have HX : Hid (x / 2 ^ r = X) := hX
      have hr' : r ≤ 64 := by omega
      have HR : Hid (r ≤ 64) := hr'
      have HJ : Hid ((k : Int) - (q : Int) = (j : Int)) := hjk
      have HJ4 : Hid (-9223372036854775808 ≤ (j : Int) ∧ (j : Int) < 9223372036854775808) := ⟨by omega, by omega⟩
      have HK1 : Hid ((k : Int) + 1 = ((k + 1 : Nat) : Int)) := by show _ = _; omega
      have HKB : Hid (-9223372036854775808 ≤ ((k + 1 : Nat) : Int) ∧ ((k + 1 : Nat) : Int) < 9223372036854775808) := ⟨by omega, by omega⟩
      obtain ⟨k1, hk1⟩ : ∃ k1, k + 1 = k1 := ⟨_, rfl⟩
      rw [hk1] at HK1 HKB
      by_cases hqk' : k + 1 < 4
      · have hk14 : k1 < 4 := by omega
        have hk14i : (k1 : Int) < 4 := by omega
        obtain ⟨y, hy⟩ : ∃ y, gw l k1 = y := ⟨_, rfl⟩
        obtain ⟨sr, hsr⟩ : ∃ s, 64 - r = s := ⟨_, rfl⟩
        obtain ⟨Y, hY⟩ : ∃ Y, y * 2 ^ sr % 18446744073709551616 = Y := ⟨_, rfl⟩
        obtain ⟨Z, hZ⟩ : ∃ Z, X ||| Y = Z := ⟨_, rfl⟩
        have hgy : (c64 l)[k1]? = some (.int .u64 (y : Nat)) := by rw [c64_gw (by omega), hy]
        have hYl : Y < 18446744073709551616 := by rw [← hY]; exact Nat.mod_lt _ (by decide)
        obtain ⟨T1, hT1⟩ : ∃ T, (shrT l q r k).set j X = T := ⟨_, rfl⟩
        have hT2 : T1.set j Z = shrT l q r (k + 1) := by
          simp only [shrT]
          rw [if_pos hqk, ← hT1, show k - q = j from hj, List.set_set]
          simp only [shrD]
          rw [if_pos hqk', hx, hX, hk1, hy, hsr, hY, hZ]
        have HT1 : Hid ((c64 (shrT l q r k)).set j (.int .u64 (X : Nat)) = c64 T1) := by show _ = _; rw [c64_set, hT1]
        have HT2 : Hid (c64 (shrT l q r (k + 1)) = (c64 T1).set j (.int .u64 (Z : Nat))) := by show _ = _; rw [c64_set, hT2]
        have lT1 : (c64 T1).length = 4 := by rw [c64_length, ← hT1]; simp [hs4]
        have gT1 : (c64 T1)[j]? = some (.int .u64 (X : Nat)) := by rw [← HT1.out]; simp [hs7, hj4]
        have HY : Hid (y * 2 ^ sr % 18446744073709551616 = Y) := hY
        have HZ : Hid (X ||| Y = Z) := hZ
        have B1 : Hid (X < 18446744073709551616) := hXl
        have B2 : Hid (Y < 18446744073709551616) := hYl
        have HSR : Hid ((64 : Int) - (r : Int) = ((sr : Nat) : Int)) := by show _ = _; omega
        have HSB : Hid (-9223372036854775808 ≤ ((sr : Nat) : Int) ∧ ((sr : Nat) : Int) < 9223372036854775808) := ⟨by omega, by omega⟩
        have hsr64 : sr ≤ 64 := by omega
        have hkk : Hid (k + 1 = k1) := hk1
        clear hX hY hZ hXl hYl hxl hx hy hT1 hT2 hj hs4 hsr hk1
        go_wp2_with ((first
          | (refine wpList_val rfl (.int .i64 (j : Int)) (exec_subI (.tmp 20) (.tmp 21) _ _ rfl k q j HJ.out HJ4.out.1 HJ4.out.2 rfl rfl) ?_)
          | (refine wpList_indexAt_arr Try.aw rfl (.tmp 2) (.tmp 23) rfl g2 k .i64 k rfl hlt rfl rfl ?_)
          | (refine wpList_get Try.u64 rfl (.tmp 24) rfl g2 k (c64 l) (.int .u64 (x : Nat)) r2 hgx rfl ?_)
          | (refine wpList_val rfl (.int .u64 (X : Int)) (exec_shrZ (.tmp 25) (.tmp 26) _ _ rfl x r X HX.out .i64 r rfl HR.out rfl rfl) ?_)
          | (refine wpList_indexAt_arr Try.aw rfl (.tmp 7) (.tmp 22) rfl g7 j .i64 j rfl hj4 rfl rfl ?_)
          | (refine wpList_store_cell rfl 22 (.tmp 28) (.tmp 27) rfl rfl Try.one64 g7 j (c64 (shrT l q r k)) (.int .u64 (X : Nat)) (by omega) rfl rfl rfl 24 r7 ?_; rw [HT1.out]; intro w8 r8 b8)
          | (refine wpList_val rfl (.int .i64 (k1 : Int)) (exec_addI (.tmp 29) (.const (.int .i64 1)) _ _ rfl k 1 k1 HK1.out HKB.out.1 HKB.out.2 rfl rfl) ?_)); try simp only [Act.put, List.setIfInBounds_toArray, List.set_cons_succ, List.set_cons_zero])
        have R7 : Hid (Arr 24 w8 g7 (c64 T1)) := r8
        have R2 : Hid (Arr 24 w8 g2 (c64 l)) := r2.but b8 n27
        have R4 : Hid (Arr 24 w8 g4 (c64 [0, 0, 0, 0])) := r4.but b8 n47
        have HB : Hid (Below w.heap.size w w8) := hb.trans (b8.below k7)
        clear r8 b8 r2 r4 r7 hb
        have F := W_fit 24 (V1 g7 (c64 T1) (c64 (shrT l q r (k + 1)))) V1_trans w8 (fun _ _ _ _ => False) (fun _ _ _ _ _ h => h)
        refine Mild3.wp_region F (by kernel_rfl) (by kernel_rfl) (Below.drewN' _ _ 1) ?_
        iterate 2 (refine Mild3.step_quiet F rfl rfl rfl (by kernel_rfl) rfl (fun w0 hC hF K hK => ?_); clear hF; go_big_quiet_op; refine hK _ ?_; clear hK K hC; clear w0)
        refine Mild3.step_known F rfl rfl (by kernel_rfl) rfl (.int .i64 (j : Int)) (fun w0 hC _ => exec_subI (.tmp 32) (.tmp 33) _ _ rfl k q j HJ.out HJ4.out.1 HJ4.out.2 rfl rfl) ?_
        simp only [Act.put, List.setIfInBounds_toArray, List.set_cons_succ, List.set_cons_zero]
        refine Mild3.step_known F rfl rfl (by kernel_rfl) rfl (.pointer (some ⟨g7, j, none⟩)) (fun w0 hC _ => exec_indexAt_arr Try.aw (.tmp 7) (.tmp 34) rfl g7 j .i64 j rfl hj4 rfl rfl) ?_
        simp only [Act.put, List.setIfInBounds_toArray, List.set_cons_succ, List.set_cons_zero]
        refine Mild3.step_known F rfl rfl (by kernel_rfl) rfl (.int .u64 (X : Nat)) (fun w0 hC _ => exec_get Try.u64 (.tmp 35) rfl g7 j (c64 T1) _ (R7.out.gr hC) gT1 rfl) ?_
        simp only [Act.put, List.setIfInBounds_toArray, List.set_cons_succ, List.set_cons_zero]
        iterate 1 (refine Mild3.step_quiet F rfl rfl rfl (by kernel_rfl) rfl (fun w0 hC hF K hK => ?_); clear hF; go_big_quiet_op; refine hK _ ?_; clear hK K hC; clear w0)
        refine Mild3.step_known F rfl rfl (by kernel_rfl) rfl (.int .i64 (k1 : Int)) (fun w0 hC _ => exec_addI (.tmp 37) (.const (.int .i64 1)) _ _ rfl k 1 k1 HK1.out HKB.out.1 HKB.out.2 rfl rfl) ?_
        simp only [Act.put, List.setIfInBounds_toArray, List.set_cons_succ, List.set_cons_zero]
        refine Mild3.step_known F rfl rfl (by kernel_rfl) rfl (.pointer (some ⟨g2, k1, none⟩)) (fun w0 hC _ => exec_indexAt_arr Try.aw (.tmp 2) (.tmp 38) rfl g2 k1 .i64 k1 rfl hk14 rfl rfl) ?_
        simp only [Act.put, List.setIfInBounds_toArray, List.set_cons_succ, List.set_cons_zero]
        refine Mild3.step_known F rfl rfl (by kernel_rfl) rfl (.int .u64 (y : Nat)) (fun w0 hC _ => exec_get Try.u64 (.tmp 39) rfl g2 k1 (c64 l) _ (R2.out.gr hC) hgy rfl) ?_
        simp only [Act.put, List.setIfInBounds_toArray, List.set_cons_succ, List.set_cons_zero]
        iterate 1 (refine Mild3.step_quiet F rfl rfl rfl (by kernel_rfl) rfl (fun w0 hC hF K hK => ?_); clear hF; go_big_quiet_op; refine hK _ ?_; clear hK K hC; clear w0)
        refine Mild3.step_known F rfl rfl (by kernel_rfl) rfl (.int .i64 (sr : Int)) (fun w0 hC _ => exec_subI (.const (.int .i64 64)) (.tmp 41) _ _ rfl 64 r sr HSR.out HSB.out.1 HSB.out.2 rfl rfl) ?_
        simp only [Act.put, List.setIfInBounds_toArray, List.set_cons_succ, List.set_cons_zero]
        refine Mild3.step_known F rfl rfl (by kernel_rfl) rfl (.int .u64 (Y : Nat)) (fun w0 hC _ => exec_shlZ (.tmp 40) (.tmp 42) _ _ rfl y sr Y HY.out .i64 sr rfl hsr64 rfl rfl) ?_
        simp only [Act.put, List.setIfInBounds_toArray, List.set_cons_succ, List.set_cons_zero]
        refine Mild3.step_known F rfl rfl (by kernel_rfl) rfl (.int .u64 (Z : Nat)) (fun w0 hC _ => exec_or (.tmp 36) (.tmp 43) _ _ rfl X Y Z HZ.out B1.out B2.out rfl rfl) ?_
        simp only [Act.put, List.setIfInBounds_toArray, List.set_cons_succ, List.set_cons_zero]
        refine Mild3.step_known F rfl rfl (by kernel_rfl) rfl (.pointer (some ⟨g7, j, none⟩)) (fun w0 hC _ => exec_indexAt_arr Try.aw (.tmp 7) (.tmp 34) rfl g7 j .i64 j rfl hj4 rfl rfl) ?_
        simp only [Act.put, List.setIfInBounds_toArray, List.set_cons_succ, List.set_cons_zero]
        refine Mild3.step_note rfl rfl rfl (fun w => Arr 24 w g7 (c64 (shrT l q r (k + 1)))) (Vw.new1) (fun w0 hC hF => store_cellV ⟨rfl, rfl, rfl⟩ (hC.turn1 R7.out) _ HT2.out (by omega) rfl 22 (.tmp 45) (.tmp 44) rfl Try.one64 rfl rfl) ?_
        intro w9 hw9 hf9
        have r7' : Arr 24 w9 g7 (c64 (shrT l q r (k + 1))) := (hf9 none).2 rfl
        have r2' := hw9.keep1 R2.out n27
        have r4' := hw9.keep1 R4.out n47
        have hb9 := HB.out.trans (hw9.below (B := w.heap.size) (fun _ _ _ hv => hv.1 ▸ k7) HB.out.size)
        clear hf9 hw9 F HJ HJ4 HSR HSB HK1 HKB
        go_wp2
        go_roundw
        case rel => exact ⟨k + 1, by omega, by omega, by go_num, r7', r2', r4', hb9⟩
        case measure => simp [intOf]; omega
      · have hT2 : (shrT l q r k).set j X = shrT l q r (k + 1) := by
          simp only [shrT]
          rw [if_pos hqk, show k - q = j from hj]
          simp only [shrD]
          rw [if_neg hqk', hx, hX]
        have HT1 : Hid ((c64 (shrT l q r k)).set j (.int .u64 (X : Nat)) = c64 (shrT l q r (k + 1))) := by show _ = _; rw [c64_set, hT2]
        have hng : ¬ ((k1 : Int) < 4) := by omega
        clear hX hx hj hs4 hT2 hxl hXl hk1
        go_wp2_with ((first
          | (refine wpList_val rfl (.int .i64 (j : Int)) (exec_subI (.tmp 20) (.tmp 21) _ _ rfl k q j HJ.out HJ4.out.1 HJ4.out.2 rfl rfl) ?_)
          | (refine wpList_indexAt_arr Try.aw rfl (.tmp 2) (.tmp 23) rfl g2 k .i64 k rfl hlt rfl rfl ?_)
          | (refine wpList_get Try.u64 rfl (.tmp 24) rfl g2 k (c64 l) (.int .u64 (x : Nat)) r2 hgx rfl ?_)
          | (refine wpList_val rfl (.int .u64 (X : Int)) (exec_shrZ (.tmp 25) (.tmp 26) _ _ rfl x r X HX.out .i64 r rfl HR.out rfl rfl) ?_)
          | (refine wpList_indexAt_arr Try.aw rfl (.tmp 7) (.tmp 22) rfl g7 j .i64 j rfl hj4 rfl rfl ?_)
          | (refine wpList_store_cell rfl 22 (.tmp 28) (.tmp 27) rfl rfl Try.one64 g7 j (c64 (shrT l q r k)) (.int .u64 (X : Nat)) (by omega) rfl rfl rfl 24 r7 ?_; rw [HT1.out]; intro w8 r8 b8)
          | (refine wpList_val rfl (.int .i64 (k1 : Int)) (exec_addI (.tmp 29) (.const (.int .i64 1)) _ _ rfl k 1 k1 HK1.out HKB.out.1 HKB.out.2 rfl rfl) ?_)); try simp only [Act.put, List.setIfInBounds_toArray, List.set_cons_succ, List.set_cons_zero])
        go_roundw
        case rel => exact ⟨k + 1, by omega, by omega, by go_num, r8, r2.but b8 n27, r4.but b8 n47, hb.trans (b8.below k7)⟩
        case measure => simp [intOf]; omega
    · have e : shrT l q r k = shrT l q r 4 := by
        by_cases h : k = 4
        · rw [h]
        · rw [shrT_low l q r k (by omega), shrT_low l q r 4 (by omega)]
      rw [e] at r7 hs7
      clear e hs4
      go_wp2_with ((first
        | (refine wpList_load_arr Try.aw rfl (.tmp 7) rfl g7 _ hs7 rfl r7 ?_)
        | (refine wpList_store_arr Try.aw rfl (.tmp 4) (.tmp 46) rfl rfl g4 _ (c64 (shrT l q r 4)) rfl hs7 (c64_one _) rfl rfl r4 ?_; intro w9 r9 b9)); try simp only [Act.put, List.setIfInBounds_toArray, List.set_cons_succ, List.set_cons_zero])
      refine bodyPost_ret (results_arr Try.aw Try.results79 _ w9 g4 _ hs7 rfl r9) rfl ⟨rfl, hb.trans (b9.below k4)⟩
end Go.Proofs.Ytpfoeeiacfadfaa
