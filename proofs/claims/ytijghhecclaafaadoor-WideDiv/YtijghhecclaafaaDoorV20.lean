/-
  Contract of the document's Rem.
  Conditions: numbers below 2^256.
-/
import Derived.Test.YtijghhecclaafaaDoorV19
namespace Go.Proofs.YtijghhecclaafaaDoor
open Go.RowKit


set_option maxRecDepth 20000 in
set_option maxHeartbeats 8000000 in
theorem rrem_any (hi lo b : Nat) (hhi : hi < M) (hlo : lo < M) (hb : b < M) (w : World) :
    Calls Tryd.prog 26 #[wv hi, wv lo, wv b] w fun e w' => e = .returned (.tuple #[wv (if b = 0 then 0 else (hi * M + lo) % b), .int .i64 (if b = 0 then 1 else 0)]) ∧ Below w.heap.size w w' := by
  have HA : Hid (b < M) := hb
  have HB : Hid (0 < M) := by show _ < _; decide
  by_cases h0 : b = 0
  · have HE : Hid (decide (b = 0) = true) := decide_eq_true h0
    rw [if_pos h0, if_pos h0]
    clear h0 hhi hlo hb
    have m := Mem.start w
    go_enter Tryd.func26, Tryd.ntmps26
    go_wp2_with ((first
      | (refine W.box m rfl (.tmp 0) rfl hi rfl ?_; clear m; intro g3 wx3 m)
      | (refine W.box m rfl (.tmp 1) rfl lo rfl ?_; clear m; intro g4 wx4 m)
      | (refine W.box m rfl (.tmp 2) rfl b rfl ?_; clear m; intro g5 wx5 m)
      | (refine W.alloc m rfl rfl 6 rfl ?_; clear m; intro g6 wx6 m)
      | (refine W.load m rfl (.tmp 5) rfl 1 rfl rfl ?_)
      | (refine W.build0 rfl rfl ?_)
      | (refine W.eql rfl (.tmp 13) (.tmp 14) _ rfl b 0 true HA.out HB.out HE.out rfl rfl ?_)
      | (refine W.build0 rfl rfl ?_)
      | (refine W.store m rfl (.tmp 6) (.tmp 16) rfl rfl 0 0 rfl (w4_length _) rfl rfl ?_; clear m; intro wx101 m)); try simp only [Act.put, List.setIfInBounds_toArray, List.set_cons_succ, List.set_cons_zero])
    refine bodyPost_ret (results_arr_tmp Tryd.aw Tryd.results26 _ wx101 g6 (c64 (w4 0)) (wl 0) rfl (m.get 0 rfl)) rfl ⟨rfl, m.below⟩
  · have HE : Hid (decide (b = 0) = false) := decide_eq_false h0
    rw [if_neg h0, if_neg h0]
    obtain ⟨X, eX⟩ : ∃ X, hi * M + lo = X := ⟨_, rfl⟩
    rw [eX]
    have hXlt : X < 2 ^ 512 := by
      rw [← eX]
      have h1 : (hi + 1) * M ≤ M * M := Nat.mul_le_mul_right _ hhi
      have h2 : M * M = 2 ^ 512 := (sq_pow 512 256 rfl).symm
      rw [h2] at h1
      have hM := hlo
      generalize 2 ^ 512 = P at *
      rw [Nat.add_mul, Nat.one_mul] at h1
      omega
    have HB0 : Hid ((∀ (i : Nat), 256 ≤ i → i < 512 → ∀ w, Calls Tryd.prog 44 #[wv hi, .int .i64 ((i % 256 : Nat) : Int)] w fun e w' => e = .returned (.int .u64 ((X / 2 ^ i % 2 : Nat) : Int)) ∧ Below w.heap.size w w') ∧ (∀ (i : Nat), i < 256 → ∀ w, Calls Tryd.prog 44 #[wv lo, .int .i64 ((i % 256 : Nat) : Int)] w fun e w' => e = .returned (.int .u64 ((X / 2 ^ i % 2 : Nat) : Int)) ∧ Below w.heap.size w w')) := ⟨fun i h1 h2 w => by
        have := bit_any hi (i - 256) hhi (by omega) w
        rw [← eX, top_bit hi lo i h1 hlo, show i % 256 = i - 256 by omega]; exact this, fun i h1 w => by
        have := bit_any lo i hlo h1 w
        rw [← eX, bot_bit hi lo i h1, Nat.mod_eq_of_lt h1]; exact this⟩
    have HXl : Hid (X < 2 ^ 512) := hXlt
    have HBp : Hid (0 < b) := by show _ < _; omega
    have HTW : Hid (∀ (x y : Nat), x < M → y ≤ 1 → ∀ w, Calls Tryd.prog 48 #[wv x, .int .u64 (y : Int)] w fun e w' => e = .returned (.tuple #[wv ((2 * x + y) % M), .int .u64 (((2 * x + y) / M : Nat) : Int)]) ∧ Below w.heap.size w w') := fun x y hx hy w => twice_any x y hx hy w
    have HSB : Hid (∀ (x : Nat), x < M → ∀ w, Calls Tryd.prog 14 #[wv x, wv b] w fun e w' => e = .returned (.tuple #[wv ((x + M - b) % M), .int .u64 ((if x < b then 1 else 0 : Nat) : Int)]) ∧ Below w.heap.size w w') := fun x hx w => rsub_any x b hx hb w
    have HCM : Hid (∀ (x : Nat), x < M → ∀ w, Calls Tryd.prog 17 #[wv x, wv b] w fun e w' => e = .returned (.int .i64 (cmpN x b)) ∧ Below w.heap.size w w') := fun x hx w => rcmp_any x b hx hb w
    clear h0 hhi hlo hb eX hXlt
    have m := Mem.start w
    go_enter Tryd.func26, Tryd.ntmps26
    go_wp2_with ((first
      | (refine W.box m rfl (.tmp 0) rfl hi rfl ?_; clear m; intro g3 wx3 m)
      | (refine W.box m rfl (.tmp 1) rfl lo rfl ?_; clear m; intro g4 wx4 m)
      | (refine W.box m rfl (.tmp 2) rfl b rfl ?_; clear m; intro g5 wx5 m)
      | (refine W.alloc m rfl rfl 6 rfl ?_; clear m; intro g6 wx6 m)
      | (refine W.load m rfl (.tmp 5) rfl 1 rfl rfl ?_)
      | (refine W.build0 rfl rfl ?_)
      | (refine W.eql rfl (.tmp 13) (.tmp 14) _ rfl b 0 false HA.out HB.out HE.out rfl rfl ?_)
      | (refine W.build0 rfl rfl ?_)
      | (refine W.alloc m rfl rfl 8 rfl ?_; clear m; intro g8 wx8 m)
      | (refine W.store m rfl (.tmp 8) (.tmp 17) rfl rfl 0 0 rfl (w4_length _) rfl rfl ?_; clear m; intro wx101 m)); try simp only [Act.put, List.setIfInBounds_toArray, List.set_cons_succ, List.set_cons_zero])
    go_loopw [9] (fun n wr => ∃ k : Nat, k ≤ 512 ∧ n = .int .i64 ((k : Int) - 1) ∧ Mem w wr [⟨g8, 24, c64 (w4 (X / 2 ^ k % b))⟩, ⟨g6, 24, c64 (w4 0)⟩, ⟨g5, 24, c64 (w4 b)⟩, ⟨g4, 24, c64 (w4 lo)⟩, ⟨g3, 24, c64 (w4 hi)⟩]) (fun n _ => (intOf n + 1).toNat)
    case atStart => exact ⟨512, by omega, rfl, by rw [Nat.div_eq_of_lt HXl.out, Nat.zero_mod]; exact m⟩
    case round =>
      clear m
      obtain ⟨k, hk, hn, m⟩ := hrel
      rcases k with _ | i
      · have hn' := hn.trans (show (Value.int .i64 (((0 : Nat) : Int) - 1)) = .int .i64 (-1) from rfl)
        subst hn'
        rw [Nat.pow_zero, Nat.div_one] at m
        clear hn HB0 HTW HSB HCM
        go_wp2_with ((first
          | (refine W.load m rfl (.tmp 8) rfl 0 rfl rfl ?_)
          | (refine W.store m rfl (.tmp 6) (.tmp 50) rfl rfl 1 (X % b) rfl (w4_length _) rfl rfl ?_; clear m; intro wx102 m)); try simp only [Act.put, List.setIfInBounds_toArray, List.set_cons_succ, List.set_cons_zero])
        refine bodyPost_ret (results_arr_tmp Tryd.aw Tryd.results26 _ wx102 g6 (c64 (w4 (X % b))) (wl _) rfl (m.get 1 rfl)) rfl ⟨rfl, m.below⟩
      · have hn' : _ = Value.int .i64 (i : Int) := hn.trans (by congr 1; omega)
        subst hn'
        have hi2 : i < 512 := by omega
        obtain ⟨bt, ebt⟩ : ∃ x, X / 2 ^ i % 2 = x := ⟨_, rfl⟩
        obtain ⟨r, er⟩ : ∃ x, X / 2 ^ (i + 1) % b = x := ⟨_, rfl⟩
        have hbt : bt ≤ 1 := by omega
        have hr : r < b := by rw [← er]; exact Nat.mod_lt _ HBp.out
        have hstep := bits_step X i b
        rw [er, ebt] at hstep
        have hcase := rem_step r bt b hr HA.out hbt
        have hcl := carry_le r bt b hr HA.out hbt
        have htw := HTW.out r bt (Nat.lt_trans hr HA.out) hbt
        rw [er] at m
        obtain ⟨N, eN⟩ : ∃ x, (2 * r + bt) % M = x := ⟨_, rfl⟩
        obtain ⟨C, eC⟩ : ∃ x, (2 * r + bt) / M = x := ⟨_, rfl⟩
        have hNM : N < M := by rw [← eN]; exact Nat.mod_lt _ (by decide)
        rw [eN, eC] at htw hcase
        rw [eC] at hcl
        rw [hstep] at hcase
        have HTw : Hid (∀ w, Calls Tryd.prog 48 #[wv r, .int .u64 (bt : Int)] w fun e w' => e = .returned ((.tuple #[wv N, .int .u64 (C : Nat)])) ∧ Below w.heap.size w w') := htw
        obtain ⟨r1, er1⟩ : ∃ x, X / 2 ^ i % b = x := ⟨_, rfl⟩
        rw [er1] at hcase
        have hsb := HSB.out N hNM
        have hcm := HCM.out N hNM
        by_cases hge : 256 ≤ i
        · have hgi : (256 : Int) ≤ (i : Int) := by omega
          have hbit := HB0.out.1 i hge hi2
          rw [ebt] at hbit
          obtain ⟨im, eim⟩ : ∃ x, i % 256 = x := ⟨_, rfl⟩
          rw [eim] at hbit
          have HIM : Hid (i % 256 = im) := eim
          have H256 : Hid (256 ≠ 0) := by show _ ≠ _; decide
          have HBit : Hid (∀ w, Calls Tryd.prog 44 #[wv hi, .int .i64 (im : Int)] w fun e w' => e = .returned (.int .u64 (bt : Nat)) ∧ Below w.heap.size w w') := hbit
          clear hbit eim
          rcases hcase with ⟨ht, hs, hq⟩ | ⟨ht, hv, hq⟩
          · rw [hs] at hsb
            obtain ⟨bo, HS⟩ : ∃ bo : Nat, Hid (∀ w, Calls Tryd.prog 14 #[wv N, wv b] w fun e w' => e = .returned ((.tuple #[wv r1, .int .u64 (bo : Nat)])) ∧ Below w.heap.size w w') := ⟨_, hsb⟩
            have HNX : Hid (X / 2 ^ i % b = r1 ∧ True) := ⟨er1, trivial⟩
            by_cases hC1 : C = 1
            · have hCe : ((C : Int) == 1) = true := by simp; omega
              clear hcl htw hstep er ebt hbt hr eN eC hNM er1 hsb hcm hn hs hq ht hC1
              go_wp2_with ((first
                | (refine W.load m rfl (.tmp 4) rfl 3 rfl rfl ?_)
                | (refine W.alloc m rfl rfl 10 rfl ?_; clear m; intro g10 wx10 m)
                | (refine W.store m rfl (.tmp 10) (.tmp 22) rfl rfl 0 lo rfl (w4_length _) rfl rfl ?_; clear m; intro wx102 m)
                | (refine W.load m rfl (.tmp 3) rfl 5 rfl rfl ?_)
                | (refine W.store m rfl (.tmp 10) (.tmp 25) rfl rfl 0 hi rfl (w4_length _) rfl rfl ?_; clear m; intro wx103 m)); try simp only [Act.put, List.setIfInBounds_toArray, List.set_cons_succ, List.set_cons_zero])
              have F := N_fit 24 wx103 (c64 (w4 0)) (c64 (w4 N)) (fun f _ v _ => (f = 44 → v = .int .u64 (bt : Nat)) ∧ (f = 48 → v = .tuple #[wv N, .int .u64 (C : Nat)])) (fun _ _ _ _ _ h => h)
              refine Mild2.wp_region F (by kernel_rfl) (by kernel_rfl) (Vw.draw _) ?_
              refine Mild2.step_known F rfl rfl (wv r) (fun w0 hC _ => W.newload m hC (.tmp 8) rfl 1 rfl rfl) ?_
              simp only [Act.put, List.setIfInBounds_toArray, List.set_cons_succ, List.set_cons_zero]
              refine Mild2.step_known F rfl rfl (wv hi) (fun w0 hC _ => W.newload m hC (.tmp 10) rfl 0 rfl rfl) ?_
              simp only [Act.put, List.setIfInBounds_toArray, List.set_cons_succ, List.set_cons_zero]
              iterate 1 (refine Mild2.step_quiet F rfl rfl rfl (fun w0 hC hF K hK => ?_); clear hF; go_big_quiet_op; refine hK _ ?_; clear hK K hC; clear w0)
              refine Mild2.step_known F rfl rfl (.int .i64 (im : Int)) (fun w0 hC _ => exec_remN (.tmp 29) (.const (.int .i64 256)) _ _ rfl i 256 im HIM.out H256.out .i64 rfl rfl) ?_
              simp only [Act.put, List.setIfInBounds_toArray, List.set_cons_succ, List.set_cons_zero]
              refine Mild2.step_callv rfl rfl (44) (#[wv hi, .int .i64 (im : Int)]) (.int .u64 (bt : Nat)) (fun w => by go_simp) (fun w0 hC => HBit.out w0) (fun _ _ h => Vw.of_gr h) (fun _ => ⟨fun _ => rfl, fun h => absurd h (by decide)⟩) (fun _ _ h => h.1 rfl) ?_
              simp only [Act.put, List.setIfInBounds_toArray, List.set_cons_succ, List.set_cons_zero]
              refine Mild2.step_callv rfl rfl (48) (#[wv r, .int .u64 (bt : Int)]) (.tuple #[wv N, .int .u64 (C : Nat)]) (fun w => by go_simp) (fun w0 hC => HTw.out w0) (fun _ _ h => Vw.of_gr h) (fun _ => ⟨fun h => absurd h (by decide), fun _ => rfl⟩) (fun _ _ h => h.2 rfl) ?_
              simp only [Act.put, List.setIfInBounds_toArray, List.set_cons_succ, List.set_cons_zero]
              iterate 3 (refine Mild2.step_quiet F rfl rfl rfl (fun w0 hC hF K hK => ?_); clear hF; go_big_quiet_op; refine hK _ ?_; clear hK K hC; clear w0)
              refine Mild2.step_new rfl rfl (NewB 24 wx103.heap.size (c64 (w4 0)) (c64 (w4 N))) (fun v => NewB.stab v) (fun w0 hC _ => W.newalloc hC rfl) ?_
              rintro _ ⟨_, _, gN, rfl, hgN, _⟩
              simp only [Act.put, List.setIfInBounds_toArray, List.set_cons_succ, List.set_cons_zero]
              refine Mild2.step_note rfl rfl (fun w => Arr 24 w gN (c64 (w4 N))) Vw.newN (fun w0 hC hF => W.newstore (.tmp 11) (.tmp 33) rfl gN hgN ((hF 11 (by simp [Oper.looksAt, Op.operands])).2 rfl) rfl rfl) ?_
              iterate 1 (refine Mild2.step_quiet F rfl rfl rfl (fun w0 hC hF K hK => ?_); clear hF; go_big_quiet_op; refine hK _ ?_; clear hK K hC; clear w0)
              intro w9 hw9 hf9
              replace m := m.doneN hw9 hgN ((hf9 none).2 rfl)
              clear hf9 hw9 F hgN
              go_wp2_with ((first
                | (refine W.load m rfl (.tmp 11) rfl 0 rfl rfl ?_)
                | (refine W.store m rfl (.tmp 8) (.tmp 35) rfl rfl 2 N rfl (w4_length _) rfl rfl ?_; clear m; intro wx104 m)
                | (refine wpList_skipG rfl ?_)
                | (refine W.load m rfl (.tmp 8) rfl 2 rfl rfl ?_)
                | (refine W.load m rfl (.tmp 5) rfl 4 rfl rfl ?_)
                | (go_at_call 14; refine (HS.out _).mono ?_; rintro e wx47 ⟨rfl, b47⟩; replace m := m.gr b47; clear b47)
                | (refine W.store m rfl (.tmp 8) (.tmp 48) rfl rfl 2 r1 rfl (w4_length _) rfl rfl ?_; clear m; intro wx105 m)); try simp only [Act.put, List.setIfInBounds_toArray, List.set_cons_succ, List.set_cons_zero])
              have m9 := Mem.sub (L' := [⟨g8, 24, c64 (w4 r1)⟩, ⟨g6, 24, c64 (w4 0)⟩, ⟨g5, 24, c64 (w4 b)⟩, ⟨g4, 24, c64 (w4 lo)⟩, ⟨g3, 24, c64 (w4 hi)⟩]) (show Mem w _ [⟨gN, 24, c64 (w4 N)⟩, ⟨g10, 24, c64 (w4 hi)⟩, ⟨g8, 24, c64 (w4 r1)⟩, ⟨g6, 24, c64 (w4 0)⟩, ⟨g5, 24, c64 (w4 b)⟩, ⟨g4, 24, c64 (w4 lo)⟩, ⟨g3, 24, c64 (w4 hi)⟩] from m) ((List.sublist_cons_self _ _).trans (List.sublist_cons_self _ _))
              clear m
              go_roundw
              case rel => exact ⟨i, by omega, by go_num, by rw [HNX.out.1]; exact m9⟩
              case measure => simp [intOf]
            · have hle : b ≤ N := ht.resolve_left hC1
              obtain ⟨cc, hcc, hcl2⟩ : ∃ cc : Int, cmpN N b = cc ∧ 0 ≤ cc := ⟨_, rfl, by unfold cmpN; split; omega; rw [if_neg (by omega)]; omega⟩
              have HCmp : Hid (∀ w, Calls Tryd.prog 17 #[wv N, wv b] w fun e w' => e = .returned (.int .i64 cc) ∧ Below w.heap.size w w') := fun w => by have := hcm w; rw [hcc] at this; exact this
              have hCe : ((C : Int) == 1) = false := by simp; omega
              clear hcl htw hstep er ebt hbt hr eN eC hNM er1 hsb hcm hn hs hq ht hC1 hle hcc
              go_wp2_with ((first
                | (refine W.load m rfl (.tmp 4) rfl 3 rfl rfl ?_)
                | (refine W.alloc m rfl rfl 10 rfl ?_; clear m; intro g10 wx10 m)
                | (refine W.store m rfl (.tmp 10) (.tmp 22) rfl rfl 0 lo rfl (w4_length _) rfl rfl ?_; clear m; intro wx102 m)
                | (refine W.load m rfl (.tmp 3) rfl 5 rfl rfl ?_)
                | (refine W.store m rfl (.tmp 10) (.tmp 25) rfl rfl 0 hi rfl (w4_length _) rfl rfl ?_; clear m; intro wx103 m)); try simp only [Act.put, List.setIfInBounds_toArray, List.set_cons_succ, List.set_cons_zero])
              have F := N_fit 24 wx103 (c64 (w4 0)) (c64 (w4 N)) (fun f _ v _ => (f = 44 → v = .int .u64 (bt : Nat)) ∧ (f = 48 → v = .tuple #[wv N, .int .u64 (C : Nat)])) (fun _ _ _ _ _ h => h)
              refine Mild2.wp_region F (by kernel_rfl) (by kernel_rfl) (Vw.draw _) ?_
              refine Mild2.step_known F rfl rfl (wv r) (fun w0 hC _ => W.newload m hC (.tmp 8) rfl 1 rfl rfl) ?_
              simp only [Act.put, List.setIfInBounds_toArray, List.set_cons_succ, List.set_cons_zero]
              refine Mild2.step_known F rfl rfl (wv hi) (fun w0 hC _ => W.newload m hC (.tmp 10) rfl 0 rfl rfl) ?_
              simp only [Act.put, List.setIfInBounds_toArray, List.set_cons_succ, List.set_cons_zero]
              iterate 1 (refine Mild2.step_quiet F rfl rfl rfl (fun w0 hC hF K hK => ?_); clear hF; go_big_quiet_op; refine hK _ ?_; clear hK K hC; clear w0)
              refine Mild2.step_known F rfl rfl (.int .i64 (im : Int)) (fun w0 hC _ => exec_remN (.tmp 29) (.const (.int .i64 256)) _ _ rfl i 256 im HIM.out H256.out .i64 rfl rfl) ?_
              simp only [Act.put, List.setIfInBounds_toArray, List.set_cons_succ, List.set_cons_zero]
              refine Mild2.step_callv rfl rfl (44) (#[wv hi, .int .i64 (im : Int)]) (.int .u64 (bt : Nat)) (fun w => by go_simp) (fun w0 hC => HBit.out w0) (fun _ _ h => Vw.of_gr h) (fun _ => ⟨fun _ => rfl, fun h => absurd h (by decide)⟩) (fun _ _ h => h.1 rfl) ?_
              simp only [Act.put, List.setIfInBounds_toArray, List.set_cons_succ, List.set_cons_zero]
              refine Mild2.step_callv rfl rfl (48) (#[wv r, .int .u64 (bt : Int)]) (.tuple #[wv N, .int .u64 (C : Nat)]) (fun w => by go_simp) (fun w0 hC => HTw.out w0) (fun _ _ h => Vw.of_gr h) (fun _ => ⟨fun h => absurd h (by decide), fun _ => rfl⟩) (fun _ _ h => h.2 rfl) ?_
              simp only [Act.put, List.setIfInBounds_toArray, List.set_cons_succ, List.set_cons_zero]
              iterate 3 (refine Mild2.step_quiet F rfl rfl rfl (fun w0 hC hF K hK => ?_); clear hF; go_big_quiet_op; refine hK _ ?_; clear hK K hC; clear w0)
              refine Mild2.step_new rfl rfl (NewB 24 wx103.heap.size (c64 (w4 0)) (c64 (w4 N))) (fun v => NewB.stab v) (fun w0 hC _ => W.newalloc hC rfl) ?_
              rintro _ ⟨_, _, gN, rfl, hgN, _⟩
              simp only [Act.put, List.setIfInBounds_toArray, List.set_cons_succ, List.set_cons_zero]
              refine Mild2.step_note rfl rfl (fun w => Arr 24 w gN (c64 (w4 N))) Vw.newN (fun w0 hC hF => W.newstore (.tmp 11) (.tmp 33) rfl gN hgN ((hF 11 (by simp [Oper.looksAt, Op.operands])).2 rfl) rfl rfl) ?_
              iterate 1 (refine Mild2.step_quiet F rfl rfl rfl (fun w0 hC hF K hK => ?_); clear hF; go_big_quiet_op; refine hK _ ?_; clear hK K hC; clear w0)
              intro w9 hw9 hf9
              replace m := m.doneN hw9 hgN ((hf9 none).2 rfl)
              clear hf9 hw9 F hgN
              go_wp2_with ((first
                | (refine W.load m rfl (.tmp 11) rfl 0 rfl rfl ?_)
                | (refine W.store m rfl (.tmp 8) (.tmp 35) rfl rfl 2 N rfl (w4_length _) rfl rfl ?_; clear m; intro wx104 m)
                | (refine wpList_valG rfl (wv N) (W.xload m (Gr.refl _) (.tmp 8) rfl 2 rfl rfl) ?_)
                | (refine wpList_valG rfl (wv b) (W.xload m (Gr.refl _) (.tmp 5) rfl 4 rfl rfl) ?_)
                | (go_at_call 17; refine (HCmp.out _).mono ?_; rintro e wx38 ⟨rfl, b38⟩; replace m := m.gr b38; clear b38)
                | (refine wpList_skipG rfl ?_)
                | (refine W.load m rfl (.tmp 8) rfl 2 rfl rfl ?_)
                | (refine W.load m rfl (.tmp 5) rfl 4 rfl rfl ?_)
                | (go_at_call 14; refine (HS.out _).mono ?_; rintro e wx47 ⟨rfl, b47⟩; replace m := m.gr b47; clear b47)
                | (refine W.store m rfl (.tmp 8) (.tmp 48) rfl rfl 2 r1 rfl (w4_length _) rfl rfl ?_; clear m; intro wx105 m)); try simp only [Act.put, List.setIfInBounds_toArray, List.set_cons_succ, List.set_cons_zero])
              have m9 := Mem.sub (L' := [⟨g8, 24, c64 (w4 r1)⟩, ⟨g6, 24, c64 (w4 0)⟩, ⟨g5, 24, c64 (w4 b)⟩, ⟨g4, 24, c64 (w4 lo)⟩, ⟨g3, 24, c64 (w4 hi)⟩]) (show Mem w _ [⟨gN, 24, c64 (w4 N)⟩, ⟨g10, 24, c64 (w4 hi)⟩, ⟨g8, 24, c64 (w4 r1)⟩, ⟨g6, 24, c64 (w4 0)⟩, ⟨g5, 24, c64 (w4 b)⟩, ⟨g4, 24, c64 (w4 lo)⟩, ⟨g3, 24, c64 (w4 hi)⟩] from m) ((List.sublist_cons_self _ _).trans (List.sublist_cons_self _ _))
              clear m
              go_roundw
              case rel => exact ⟨i, by omega, by go_num, by rw [HNX.out.1]; exact m9⟩
              case measure => simp [intOf]
          · have hC1 : C ≠ 1 := fun h => ht (.inl h)
            have hlt : N < b := Nat.lt_of_not_le (fun h => ht (.inr h))
            have hcc : cmpN N b = -1 := by unfold cmpN; rw [if_neg (by omega), if_pos hlt]
            have HCmp : Hid (∀ w, Calls Tryd.prog 17 #[wv N, wv b] w fun e w' => e = .returned (.int .i64 (-1)) ∧ Below w.heap.size w w') := fun w => by have := hcm w; rw [hcc] at this; exact this
            have HNX : Hid (X / 2 ^ i % b = N ∧ True) := ⟨(by rw [er1, hv]), trivial⟩
            have hCe : ((C : Int) == 1) = false := by simp; omega
            clear hcl htw hstep er ebt hbt hr eN eC hNM er1 hsb hcm hn hv hq ht hC1 hlt hcc
            go_wp2_with ((first
              | (refine W.load m rfl (.tmp 4) rfl 3 rfl rfl ?_)
              | (refine W.alloc m rfl rfl 10 rfl ?_; clear m; intro g10 wx10 m)
              | (refine W.store m rfl (.tmp 10) (.tmp 22) rfl rfl 0 lo rfl (w4_length _) rfl rfl ?_; clear m; intro wx102 m)
              | (refine W.load m rfl (.tmp 3) rfl 5 rfl rfl ?_)
              | (refine W.store m rfl (.tmp 10) (.tmp 25) rfl rfl 0 hi rfl (w4_length _) rfl rfl ?_; clear m; intro wx103 m)); try simp only [Act.put, List.setIfInBounds_toArray, List.set_cons_succ, List.set_cons_zero])
            have F := N_fit 24 wx103 (c64 (w4 0)) (c64 (w4 N)) (fun f _ v _ => (f = 44 → v = .int .u64 (bt : Nat)) ∧ (f = 48 → v = .tuple #[wv N, .int .u64 (C : Nat)])) (fun _ _ _ _ _ h => h)
            refine Mild2.wp_region F (by kernel_rfl) (by kernel_rfl) (Vw.draw _) ?_
            refine Mild2.step_known F rfl rfl (wv r) (fun w0 hC _ => W.newload m hC (.tmp 8) rfl 1 rfl rfl) ?_
            simp only [Act.put, List.setIfInBounds_toArray, List.set_cons_succ, List.set_cons_zero]
            refine Mild2.step_known F rfl rfl (wv hi) (fun w0 hC _ => W.newload m hC (.tmp 10) rfl 0 rfl rfl) ?_
            simp only [Act.put, List.setIfInBounds_toArray, List.set_cons_succ, List.set_cons_zero]
            iterate 1 (refine Mild2.step_quiet F rfl rfl rfl (fun w0 hC hF K hK => ?_); clear hF; go_big_quiet_op; refine hK _ ?_; clear hK K hC; clear w0)
            refine Mild2.step_known F rfl rfl (.int .i64 (im : Int)) (fun w0 hC _ => exec_remN (.tmp 29) (.const (.int .i64 256)) _ _ rfl i 256 im HIM.out H256.out .i64 rfl rfl) ?_
            simp only [Act.put, List.setIfInBounds_toArray, List.set_cons_succ, List.set_cons_zero]
            refine Mild2.step_callv rfl rfl (44) (#[wv hi, .int .i64 (im : Int)]) (.int .u64 (bt : Nat)) (fun w => by go_simp) (fun w0 hC => HBit.out w0) (fun _ _ h => Vw.of_gr h) (fun _ => ⟨fun _ => rfl, fun h => absurd h (by decide)⟩) (fun _ _ h => h.1 rfl) ?_
            simp only [Act.put, List.setIfInBounds_toArray, List.set_cons_succ, List.set_cons_zero]
            refine Mild2.step_callv rfl rfl (48) (#[wv r, .int .u64 (bt : Int)]) (.tuple #[wv N, .int .u64 (C : Nat)]) (fun w => by go_simp) (fun w0 hC => HTw.out w0) (fun _ _ h => Vw.of_gr h) (fun _ => ⟨fun h => absurd h (by decide), fun _ => rfl⟩) (fun _ _ h => h.2 rfl) ?_
            simp only [Act.put, List.setIfInBounds_toArray, List.set_cons_succ, List.set_cons_zero]
            iterate 3 (refine Mild2.step_quiet F rfl rfl rfl (fun w0 hC hF K hK => ?_); clear hF; go_big_quiet_op; refine hK _ ?_; clear hK K hC; clear w0)
            refine Mild2.step_new rfl rfl (NewB 24 wx103.heap.size (c64 (w4 0)) (c64 (w4 N))) (fun v => NewB.stab v) (fun w0 hC _ => W.newalloc hC rfl) ?_
            rintro _ ⟨_, _, gN, rfl, hgN, _⟩
            simp only [Act.put, List.setIfInBounds_toArray, List.set_cons_succ, List.set_cons_zero]
            refine Mild2.step_note rfl rfl (fun w => Arr 24 w gN (c64 (w4 N))) Vw.newN (fun w0 hC hF => W.newstore (.tmp 11) (.tmp 33) rfl gN hgN ((hF 11 (by simp [Oper.looksAt, Op.operands])).2 rfl) rfl rfl) ?_
            iterate 1 (refine Mild2.step_quiet F rfl rfl rfl (fun w0 hC hF K hK => ?_); clear hF; go_big_quiet_op; refine hK _ ?_; clear hK K hC; clear w0)
            intro w9 hw9 hf9
            replace m := m.doneN hw9 hgN ((hf9 none).2 rfl)
            clear hf9 hw9 F hgN
            go_wp2_with ((first
              | (refine W.load m rfl (.tmp 11) rfl 0 rfl rfl ?_)
              | (refine W.store m rfl (.tmp 8) (.tmp 35) rfl rfl 2 N rfl (w4_length _) rfl rfl ?_; clear m; intro wx104 m)
              | (refine wpList_valG rfl (wv N) (W.xload m (Gr.refl _) (.tmp 8) rfl 2 rfl rfl) ?_)
              | (refine wpList_valG rfl (wv b) (W.xload m (Gr.refl _) (.tmp 5) rfl 4 rfl rfl) ?_)
              | (go_at_call 17; refine (HCmp.out _).mono ?_; rintro e wx38 ⟨rfl, b38⟩; replace m := m.gr b38; clear b38)
              | (refine wpList_skipG rfl ?_)); try simp only [Act.put, List.setIfInBounds_toArray, List.set_cons_succ, List.set_cons_zero])
            have m9 := Mem.sub (L' := [⟨g8, 24, c64 (w4 N)⟩, ⟨g6, 24, c64 (w4 0)⟩, ⟨g5, 24, c64 (w4 b)⟩, ⟨g4, 24, c64 (w4 lo)⟩, ⟨g3, 24, c64 (w4 hi)⟩]) (show Mem w _ [⟨gN, 24, c64 (w4 N)⟩, ⟨g10, 24, c64 (w4 hi)⟩, ⟨g8, 24, c64 (w4 N)⟩, ⟨g6, 24, c64 (w4 0)⟩, ⟨g5, 24, c64 (w4 b)⟩, ⟨g4, 24, c64 (w4 lo)⟩, ⟨g3, 24, c64 (w4 hi)⟩] from m) ((List.sublist_cons_self _ _).trans (List.sublist_cons_self _ _))
            clear m
            go_roundw
            case rel => exact ⟨i, by omega, by go_num, by rw [HNX.out.1]; exact m9⟩
            case measure => simp [intOf]
        · have hgi : ¬ ((256 : Int) ≤ (i : Int)) := by omega
          have hbit := HB0.out.2 i (by omega)
          rw [ebt] at hbit
          obtain ⟨im, eim⟩ : ∃ x, i % 256 = x := ⟨_, rfl⟩
          rw [eim] at hbit
          have HIM : Hid (i % 256 = im) := eim
          have H256 : Hid (256 ≠ 0) := by show _ ≠ _; decide
          have HBit : Hid (∀ w, Calls Tryd.prog 44 #[wv lo, .int .i64 (im : Int)] w fun e w' => e = .returned (.int .u64 (bt : Nat)) ∧ Below w.heap.size w w') := hbit
          clear hbit eim
          rcases hcase with ⟨ht, hs, hq⟩ | ⟨ht, hv, hq⟩
          · rw [hs] at hsb
            obtain ⟨bo, HS⟩ : ∃ bo : Nat, Hid (∀ w, Calls Tryd.prog 14 #[wv N, wv b] w fun e w' => e = .returned ((.tuple #[wv r1, .int .u64 (bo : Nat)])) ∧ Below w.heap.size w w') := ⟨_, hsb⟩
            have HNX : Hid (X / 2 ^ i % b = r1 ∧ True) := ⟨er1, trivial⟩
            by_cases hC1 : C = 1
            · have hCe : ((C : Int) == 1) = true := by simp; omega
              clear hcl htw hstep er ebt hbt hr eN eC hNM er1 hsb hcm hn hs hq ht hC1
              go_wp2_with ((first
                | (refine W.load m rfl (.tmp 4) rfl 3 rfl rfl ?_)
                | (refine W.alloc m rfl rfl 10 rfl ?_; clear m; intro g10 wx10 m)
                | (refine W.store m rfl (.tmp 10) (.tmp 22) rfl rfl 0 lo rfl (w4_length _) rfl rfl ?_; clear m; intro wx102 m)); try simp only [Act.put, List.setIfInBounds_toArray, List.set_cons_succ, List.set_cons_zero])
              have F := N_fit 24 wx102 (c64 (w4 0)) (c64 (w4 N)) (fun f _ v _ => (f = 44 → v = .int .u64 (bt : Nat)) ∧ (f = 48 → v = .tuple #[wv N, .int .u64 (C : Nat)])) (fun _ _ _ _ _ h => h)
              refine Mild2.wp_region F (by kernel_rfl) (by kernel_rfl) (Vw.draw _) ?_
              refine Mild2.step_known F rfl rfl (wv r) (fun w0 hC _ => W.newload m hC (.tmp 8) rfl 1 rfl rfl) ?_
              simp only [Act.put, List.setIfInBounds_toArray, List.set_cons_succ, List.set_cons_zero]
              refine Mild2.step_known F rfl rfl (wv lo) (fun w0 hC _ => W.newload m hC (.tmp 10) rfl 0 rfl rfl) ?_
              simp only [Act.put, List.setIfInBounds_toArray, List.set_cons_succ, List.set_cons_zero]
              iterate 1 (refine Mild2.step_quiet F rfl rfl rfl (fun w0 hC hF K hK => ?_); clear hF; go_big_quiet_op; refine hK _ ?_; clear hK K hC; clear w0)
              refine Mild2.step_known F rfl rfl (.int .i64 (im : Int)) (fun w0 hC _ => exec_remN (.tmp 29) (.const (.int .i64 256)) _ _ rfl i 256 im HIM.out H256.out .i64 rfl rfl) ?_
              simp only [Act.put, List.setIfInBounds_toArray, List.set_cons_succ, List.set_cons_zero]
              refine Mild2.step_callv rfl rfl (44) (#[wv lo, .int .i64 (im : Int)]) (.int .u64 (bt : Nat)) (fun w => by go_simp) (fun w0 hC => HBit.out w0) (fun _ _ h => Vw.of_gr h) (fun _ => ⟨fun _ => rfl, fun h => absurd h (by decide)⟩) (fun _ _ h => h.1 rfl) ?_
              simp only [Act.put, List.setIfInBounds_toArray, List.set_cons_succ, List.set_cons_zero]
              refine Mild2.step_callv rfl rfl (48) (#[wv r, .int .u64 (bt : Int)]) (.tuple #[wv N, .int .u64 (C : Nat)]) (fun w => by go_simp) (fun w0 hC => HTw.out w0) (fun _ _ h => Vw.of_gr h) (fun _ => ⟨fun h => absurd h (by decide), fun _ => rfl⟩) (fun _ _ h => h.2 rfl) ?_
              simp only [Act.put, List.setIfInBounds_toArray, List.set_cons_succ, List.set_cons_zero]
              iterate 3 (refine Mild2.step_quiet F rfl rfl rfl (fun w0 hC hF K hK => ?_); clear hF; go_big_quiet_op; refine hK _ ?_; clear hK K hC; clear w0)
              refine Mild2.step_new rfl rfl (NewB 24 wx102.heap.size (c64 (w4 0)) (c64 (w4 N))) (fun v => NewB.stab v) (fun w0 hC _ => W.newalloc hC rfl) ?_
              rintro _ ⟨_, _, gN, rfl, hgN, _⟩
              simp only [Act.put, List.setIfInBounds_toArray, List.set_cons_succ, List.set_cons_zero]
              refine Mild2.step_note rfl rfl (fun w => Arr 24 w gN (c64 (w4 N))) Vw.newN (fun w0 hC hF => W.newstore (.tmp 11) (.tmp 33) rfl gN hgN ((hF 11 (by simp [Oper.looksAt, Op.operands])).2 rfl) rfl rfl) ?_
              iterate 1 (refine Mild2.step_quiet F rfl rfl rfl (fun w0 hC hF K hK => ?_); clear hF; go_big_quiet_op; refine hK _ ?_; clear hK K hC; clear w0)
              intro w9 hw9 hf9
              replace m := m.doneN hw9 hgN ((hf9 none).2 rfl)
              clear hf9 hw9 F hgN
              go_wp2_with ((first
                | (refine W.load m rfl (.tmp 11) rfl 0 rfl rfl ?_)
                | (refine W.store m rfl (.tmp 8) (.tmp 35) rfl rfl 2 N rfl (w4_length _) rfl rfl ?_; clear m; intro wx103 m)
                | (refine wpList_skipG rfl ?_)
                | (refine W.load m rfl (.tmp 8) rfl 2 rfl rfl ?_)
                | (refine W.load m rfl (.tmp 5) rfl 4 rfl rfl ?_)
                | (go_at_call 14; refine (HS.out _).mono ?_; rintro e wx47 ⟨rfl, b47⟩; replace m := m.gr b47; clear b47)
                | (refine W.store m rfl (.tmp 8) (.tmp 48) rfl rfl 2 r1 rfl (w4_length _) rfl rfl ?_; clear m; intro wx104 m)); try simp only [Act.put, List.setIfInBounds_toArray, List.set_cons_succ, List.set_cons_zero])
              have m9 := Mem.sub (L' := [⟨g8, 24, c64 (w4 r1)⟩, ⟨g6, 24, c64 (w4 0)⟩, ⟨g5, 24, c64 (w4 b)⟩, ⟨g4, 24, c64 (w4 lo)⟩, ⟨g3, 24, c64 (w4 hi)⟩]) (show Mem w _ [⟨gN, 24, c64 (w4 N)⟩, ⟨g10, 24, c64 (w4 lo)⟩, ⟨g8, 24, c64 (w4 r1)⟩, ⟨g6, 24, c64 (w4 0)⟩, ⟨g5, 24, c64 (w4 b)⟩, ⟨g4, 24, c64 (w4 lo)⟩, ⟨g3, 24, c64 (w4 hi)⟩] from m) ((List.sublist_cons_self _ _).trans (List.sublist_cons_self _ _))
              clear m
              go_roundw
              case rel => exact ⟨i, by omega, by go_num, by rw [HNX.out.1]; exact m9⟩
              case measure => simp [intOf]
            · have hle : b ≤ N := ht.resolve_left hC1
              obtain ⟨cc, hcc, hcl2⟩ : ∃ cc : Int, cmpN N b = cc ∧ 0 ≤ cc := ⟨_, rfl, by unfold cmpN; split; omega; rw [if_neg (by omega)]; omega⟩
              have HCmp : Hid (∀ w, Calls Tryd.prog 17 #[wv N, wv b] w fun e w' => e = .returned (.int .i64 cc) ∧ Below w.heap.size w w') := fun w => by have := hcm w; rw [hcc] at this; exact this
              have hCe : ((C : Int) == 1) = false := by simp; omega
              clear hcl htw hstep er ebt hbt hr eN eC hNM er1 hsb hcm hn hs hq ht hC1 hle hcc
              go_wp2_with ((first
                | (refine W.load m rfl (.tmp 4) rfl 3 rfl rfl ?_)
                | (refine W.alloc m rfl rfl 10 rfl ?_; clear m; intro g10 wx10 m)
                | (refine W.store m rfl (.tmp 10) (.tmp 22) rfl rfl 0 lo rfl (w4_length _) rfl rfl ?_; clear m; intro wx102 m)); try simp only [Act.put, List.setIfInBounds_toArray, List.set_cons_succ, List.set_cons_zero])
              have F := N_fit 24 wx102 (c64 (w4 0)) (c64 (w4 N)) (fun f _ v _ => (f = 44 → v = .int .u64 (bt : Nat)) ∧ (f = 48 → v = .tuple #[wv N, .int .u64 (C : Nat)])) (fun _ _ _ _ _ h => h)
              refine Mild2.wp_region F (by kernel_rfl) (by kernel_rfl) (Vw.draw _) ?_
              refine Mild2.step_known F rfl rfl (wv r) (fun w0 hC _ => W.newload m hC (.tmp 8) rfl 1 rfl rfl) ?_
              simp only [Act.put, List.setIfInBounds_toArray, List.set_cons_succ, List.set_cons_zero]
              refine Mild2.step_known F rfl rfl (wv lo) (fun w0 hC _ => W.newload m hC (.tmp 10) rfl 0 rfl rfl) ?_
              simp only [Act.put, List.setIfInBounds_toArray, List.set_cons_succ, List.set_cons_zero]
              iterate 1 (refine Mild2.step_quiet F rfl rfl rfl (fun w0 hC hF K hK => ?_); clear hF; go_big_quiet_op; refine hK _ ?_; clear hK K hC; clear w0)
              refine Mild2.step_known F rfl rfl (.int .i64 (im : Int)) (fun w0 hC _ => exec_remN (.tmp 29) (.const (.int .i64 256)) _ _ rfl i 256 im HIM.out H256.out .i64 rfl rfl) ?_
              simp only [Act.put, List.setIfInBounds_toArray, List.set_cons_succ, List.set_cons_zero]
              refine Mild2.step_callv rfl rfl (44) (#[wv lo, .int .i64 (im : Int)]) (.int .u64 (bt : Nat)) (fun w => by go_simp) (fun w0 hC => HBit.out w0) (fun _ _ h => Vw.of_gr h) (fun _ => ⟨fun _ => rfl, fun h => absurd h (by decide)⟩) (fun _ _ h => h.1 rfl) ?_
              simp only [Act.put, List.setIfInBounds_toArray, List.set_cons_succ, List.set_cons_zero]
              refine Mild2.step_callv rfl rfl (48) (#[wv r, .int .u64 (bt : Int)]) (.tuple #[wv N, .int .u64 (C : Nat)]) (fun w => by go_simp) (fun w0 hC => HTw.out w0) (fun _ _ h => Vw.of_gr h) (fun _ => ⟨fun h => absurd h (by decide), fun _ => rfl⟩) (fun _ _ h => h.2 rfl) ?_
              simp only [Act.put, List.setIfInBounds_toArray, List.set_cons_succ, List.set_cons_zero]
              iterate 3 (refine Mild2.step_quiet F rfl rfl rfl (fun w0 hC hF K hK => ?_); clear hF; go_big_quiet_op; refine hK _ ?_; clear hK K hC; clear w0)
              refine Mild2.step_new rfl rfl (NewB 24 wx102.heap.size (c64 (w4 0)) (c64 (w4 N))) (fun v => NewB.stab v) (fun w0 hC _ => W.newalloc hC rfl) ?_
              rintro _ ⟨_, _, gN, rfl, hgN, _⟩
              simp only [Act.put, List.setIfInBounds_toArray, List.set_cons_succ, List.set_cons_zero]
              refine Mild2.step_note rfl rfl (fun w => Arr 24 w gN (c64 (w4 N))) Vw.newN (fun w0 hC hF => W.newstore (.tmp 11) (.tmp 33) rfl gN hgN ((hF 11 (by simp [Oper.looksAt, Op.operands])).2 rfl) rfl rfl) ?_
              iterate 1 (refine Mild2.step_quiet F rfl rfl rfl (fun w0 hC hF K hK => ?_); clear hF; go_big_quiet_op; refine hK _ ?_; clear hK K hC; clear w0)
              intro w9 hw9 hf9
              replace m := m.doneN hw9 hgN ((hf9 none).2 rfl)
              clear hf9 hw9 F hgN
              go_wp2_with ((first
                | (refine W.load m rfl (.tmp 11) rfl 0 rfl rfl ?_)
                | (refine W.store m rfl (.tmp 8) (.tmp 35) rfl rfl 2 N rfl (w4_length _) rfl rfl ?_; clear m; intro wx103 m)
                | (refine wpList_valG rfl (wv N) (W.xload m (Gr.refl _) (.tmp 8) rfl 2 rfl rfl) ?_)
                | (refine wpList_valG rfl (wv b) (W.xload m (Gr.refl _) (.tmp 5) rfl 4 rfl rfl) ?_)
                | (go_at_call 17; refine (HCmp.out _).mono ?_; rintro e wx38 ⟨rfl, b38⟩; replace m := m.gr b38; clear b38)
                | (refine wpList_skipG rfl ?_)
                | (refine W.load m rfl (.tmp 8) rfl 2 rfl rfl ?_)
                | (refine W.load m rfl (.tmp 5) rfl 4 rfl rfl ?_)
                | (go_at_call 14; refine (HS.out _).mono ?_; rintro e wx47 ⟨rfl, b47⟩; replace m := m.gr b47; clear b47)
                | (refine W.store m rfl (.tmp 8) (.tmp 48) rfl rfl 2 r1 rfl (w4_length _) rfl rfl ?_; clear m; intro wx104 m)); try simp only [Act.put, List.setIfInBounds_toArray, List.set_cons_succ, List.set_cons_zero])
              have m9 := Mem.sub (L' := [⟨g8, 24, c64 (w4 r1)⟩, ⟨g6, 24, c64 (w4 0)⟩, ⟨g5, 24, c64 (w4 b)⟩, ⟨g4, 24, c64 (w4 lo)⟩, ⟨g3, 24, c64 (w4 hi)⟩]) (show Mem w _ [⟨gN, 24, c64 (w4 N)⟩, ⟨g10, 24, c64 (w4 lo)⟩, ⟨g8, 24, c64 (w4 r1)⟩, ⟨g6, 24, c64 (w4 0)⟩, ⟨g5, 24, c64 (w4 b)⟩, ⟨g4, 24, c64 (w4 lo)⟩, ⟨g3, 24, c64 (w4 hi)⟩] from m) ((List.sublist_cons_self _ _).trans (List.sublist_cons_self _ _))
              clear m
              go_roundw
              case rel => exact ⟨i, by omega, by go_num, by rw [HNX.out.1]; exact m9⟩
              case measure => simp [intOf]
          · have hC1 : C ≠ 1 := fun h => ht (.inl h)
            have hlt : N < b := Nat.lt_of_not_le (fun h => ht (.inr h))
            have hcc : cmpN N b = -1 := by unfold cmpN; rw [if_neg (by omega), if_pos hlt]
            have HCmp : Hid (∀ w, Calls Tryd.prog 17 #[wv N, wv b] w fun e w' => e = .returned (.int .i64 (-1)) ∧ Below w.heap.size w w') := fun w => by have := hcm w; rw [hcc] at this; exact this
            have HNX : Hid (X / 2 ^ i % b = N ∧ True) := ⟨(by rw [er1, hv]), trivial⟩
            have hCe : ((C : Int) == 1) = false := by simp; omega
            clear hcl htw hstep er ebt hbt hr eN eC hNM er1 hsb hcm hn hv hq ht hC1 hlt hcc
            go_wp2_with ((first
              | (refine W.load m rfl (.tmp 4) rfl 3 rfl rfl ?_)
              | (refine W.alloc m rfl rfl 10 rfl ?_; clear m; intro g10 wx10 m)
              | (refine W.store m rfl (.tmp 10) (.tmp 22) rfl rfl 0 lo rfl (w4_length _) rfl rfl ?_; clear m; intro wx102 m)); try simp only [Act.put, List.setIfInBounds_toArray, List.set_cons_succ, List.set_cons_zero])
            have F := N_fit 24 wx102 (c64 (w4 0)) (c64 (w4 N)) (fun f _ v _ => (f = 44 → v = .int .u64 (bt : Nat)) ∧ (f = 48 → v = .tuple #[wv N, .int .u64 (C : Nat)])) (fun _ _ _ _ _ h => h)
            refine Mild2.wp_region F (by kernel_rfl) (by kernel_rfl) (Vw.draw _) ?_
            refine Mild2.step_known F rfl rfl (wv r) (fun w0 hC _ => W.newload m hC (.tmp 8) rfl 1 rfl rfl) ?_
            simp only [Act.put, List.setIfInBounds_toArray, List.set_cons_succ, List.set_cons_zero]
            refine Mild2.step_known F rfl rfl (wv lo) (fun w0 hC _ => W.newload m hC (.tmp 10) rfl 0 rfl rfl) ?_
            simp only [Act.put, List.setIfInBounds_toArray, List.set_cons_succ, List.set_cons_zero]
            iterate 1 (refine Mild2.step_quiet F rfl rfl rfl (fun w0 hC hF K hK => ?_); clear hF; go_big_quiet_op; refine hK _ ?_; clear hK K hC; clear w0)
            refine Mild2.step_known F rfl rfl (.int .i64 (im : Int)) (fun w0 hC _ => exec_remN (.tmp 29) (.const (.int .i64 256)) _ _ rfl i 256 im HIM.out H256.out .i64 rfl rfl) ?_
            simp only [Act.put, List.setIfInBounds_toArray, List.set_cons_succ, List.set_cons_zero]
            refine Mild2.step_callv rfl rfl (44) (#[wv lo, .int .i64 (im : Int)]) (.int .u64 (bt : Nat)) (fun w => by go_simp) (fun w0 hC => HBit.out w0) (fun _ _ h => Vw.of_gr h) (fun _ => ⟨fun _ => rfl, fun h => absurd h (by decide)⟩) (fun _ _ h => h.1 rfl) ?_
            simp only [Act.put, List.setIfInBounds_toArray, List.set_cons_succ, List.set_cons_zero]
            refine Mild2.step_callv rfl rfl (48) (#[wv r, .int .u64 (bt : Int)]) (.tuple #[wv N, .int .u64 (C : Nat)]) (fun w => by go_simp) (fun w0 hC => HTw.out w0) (fun _ _ h => Vw.of_gr h) (fun _ => ⟨fun h => absurd h (by decide), fun _ => rfl⟩) (fun _ _ h => h.2 rfl) ?_
            simp only [Act.put, List.setIfInBounds_toArray, List.set_cons_succ, List.set_cons_zero]
            iterate 3 (refine Mild2.step_quiet F rfl rfl rfl (fun w0 hC hF K hK => ?_); clear hF; go_big_quiet_op; refine hK _ ?_; clear hK K hC; clear w0)
            refine Mild2.step_new rfl rfl (NewB 24 wx102.heap.size (c64 (w4 0)) (c64 (w4 N))) (fun v => NewB.stab v) (fun w0 hC _ => W.newalloc hC rfl) ?_
            rintro _ ⟨_, _, gN, rfl, hgN, _⟩
            simp only [Act.put, List.setIfInBounds_toArray, List.set_cons_succ, List.set_cons_zero]
            refine Mild2.step_note rfl rfl (fun w => Arr 24 w gN (c64 (w4 N))) Vw.newN (fun w0 hC hF => W.newstore (.tmp 11) (.tmp 33) rfl gN hgN ((hF 11 (by simp [Oper.looksAt, Op.operands])).2 rfl) rfl rfl) ?_
            iterate 1 (refine Mild2.step_quiet F rfl rfl rfl (fun w0 hC hF K hK => ?_); clear hF; go_big_quiet_op; refine hK _ ?_; clear hK K hC; clear w0)
            intro w9 hw9 hf9
            replace m := m.doneN hw9 hgN ((hf9 none).2 rfl)
            clear hf9 hw9 F hgN
            go_wp2_with ((first
              | (refine W.load m rfl (.tmp 11) rfl 0 rfl rfl ?_)
              | (refine W.store m rfl (.tmp 8) (.tmp 35) rfl rfl 2 N rfl (w4_length _) rfl rfl ?_; clear m; intro wx103 m)
              | (refine wpList_valG rfl (wv N) (W.xload m (Gr.refl _) (.tmp 8) rfl 2 rfl rfl) ?_)
              | (refine wpList_valG rfl (wv b) (W.xload m (Gr.refl _) (.tmp 5) rfl 4 rfl rfl) ?_)
              | (go_at_call 17; refine (HCmp.out _).mono ?_; rintro e wx38 ⟨rfl, b38⟩; replace m := m.gr b38; clear b38)
              | (refine wpList_skipG rfl ?_)); try simp only [Act.put, List.setIfInBounds_toArray, List.set_cons_succ, List.set_cons_zero])
            have m9 := Mem.sub (L' := [⟨g8, 24, c64 (w4 N)⟩, ⟨g6, 24, c64 (w4 0)⟩, ⟨g5, 24, c64 (w4 b)⟩, ⟨g4, 24, c64 (w4 lo)⟩, ⟨g3, 24, c64 (w4 hi)⟩]) (show Mem w _ [⟨gN, 24, c64 (w4 N)⟩, ⟨g10, 24, c64 (w4 lo)⟩, ⟨g8, 24, c64 (w4 N)⟩, ⟨g6, 24, c64 (w4 0)⟩, ⟨g5, 24, c64 (w4 b)⟩, ⟨g4, 24, c64 (w4 lo)⟩, ⟨g3, 24, c64 (w4 hi)⟩] from m) ((List.sublist_cons_self _ _).trans (List.sublist_cons_self _ _))
            clear m
            go_roundw
            case rel => exact ⟨i, by omega, by go_num, by rw [HNX.out.1]; exact m9⟩
            case measure => simp [intOf]
end Go.Proofs.YtijghhecclaafaaDoor
