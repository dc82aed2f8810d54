/-
  Contracts of the document's Div and Rem.
  Conditions: numbers below 2^256.
-/
import Derived.Test.YtijghhecclaafaaDoorV16
namespace Go.Proofs.YtijghhecclaafaaDoor
open Go.RowKit

theorem sq_pow (n k : Nat) (h : n = k + k) : 2 ^ n = 2 ^ k * 2 ^ k := by subst h; exact Nat.pow_add 2 k k
theorem top_bit (hi lo i : Nat) (h : 256 ≤ i) (hl : lo < M) : (hi * M + lo) / 2 ^ i = hi / 2 ^ (i - 256) := by
  have e : 2 ^ i = M * 2 ^ (i - 256) := by rw [show M = 2 ^ 256 from rfl, ← Nat.pow_add, show 256 + (i - 256) = i by omega]
  rw [e, ← Nat.div_div_eq_div_mul, Nat.add_comm, Nat.add_mul_div_right _ _ (by decide), Nat.div_eq_of_lt hl, Nat.zero_add]
theorem bot_bit (hi lo i : Nat) (h : i < 256) : (hi * M + lo) / 2 ^ i % 2 = lo / 2 ^ i % 2 := by
  have e : hi * M = 2 ^ i * (2 * (2 ^ (255 - i) * hi)) := by
    have e1 : M = 2 ^ i * (2 * 2 ^ (255 - i)) := by rw [show M = 2 ^ 256 from rfl, ← Nat.pow_succ', ← Nat.pow_add]; congr 1; omega
    rw [e1, Nat.mul_comm hi, Nat.mul_assoc, Nat.mul_assoc]
  rw [e, Nat.add_comm, Nat.add_mul_div_left _ _ (Nat.two_pow_pos i)]
  omega
theorem carry_le (r b m : Nat) (hr : r < m) (hm : m < M) (hb : b ≤ 1) : (2 * r + b) / M ≤ 1 := by unfold M at *; omega

set_option maxRecDepth 20000 in
set_option maxHeartbeats 8000000 in
theorem rdiv_any (a b : Nat) (ha : a < M) (hb : b < M) (w : World) :
    Calls Tryd.prog 24 #[wv a, wv b] w fun e w' => e = .returned (.tuple #[wv (a / b), wv (if b = 0 then 0 else a % b), .int .i64 (if b = 0 then 1 else 0)]) ∧ Below w.heap.size w w' := by
  have HA : Hid (b < M) := hb
  have HB : Hid (0 < M) := by show _ < _; decide
  by_cases h0 : b = 0
  · have HE : Hid (decide (b = 0) = true) := decide_eq_true h0
    rw [if_pos h0, if_pos h0]
    have HZ : Hid (a / b = 0) := by show _ = _; rw [h0, Nat.div_zero]
    rw [HZ.out]
    clear h0 ha hb HZ
    have m := Mem.start w
    go_enter Tryd.func24, Tryd.ntmps24
    go_wp2_with ((first
      | (refine W.box m rfl (.tmp 0) rfl a rfl ?_; clear m; intro g2 wx2 m)
      | (refine W.box m rfl (.tmp 1) rfl b rfl ?_; clear m; intro g3 wx3 m)
      | (refine W.alloc m rfl rfl 4 rfl ?_; clear m; intro g4 wx4 m)
      | (refine W.alloc m rfl rfl 5 rfl ?_; clear m; intro g5 wx5 m)
      | (refine W.load m rfl (.tmp 3) rfl 2 rfl rfl ?_)
      | (refine W.build0 rfl rfl ?_)
      | (refine W.eql rfl (.tmp 13) (.tmp 14) _ rfl b 0 true HA.out HB.out HE.out rfl rfl ?_)
      | (refine W.build0 rfl rfl ?_)
      | (refine W.build0 rfl rfl ?_)
      | (refine W.store m rfl (.tmp 4) (.tmp 16) rfl rfl 1 0 rfl (w4_length _) rfl rfl ?_; clear m; intro wx101 m)
      | (refine W.store m rfl (.tmp 5) (.tmp 17) rfl rfl 0 0 rfl (w4_length _) rfl rfl ?_; clear m; intro wx102 m)); try simp only [Act.put, List.setIfInBounds_toArray, List.set_cons_succ, List.set_cons_zero])
    refine bodyPost_ret (results_arr_arr_tmp Tryd.aw Tryd.results24 _ wx102 g4 g5 (c64 (w4 0)) (c64 (w4 0)) (wl 0) (wl 0) rfl rfl (m.get 1 rfl) (m.get 0 rfl)) rfl ⟨rfl, m.below⟩
  · have HE : Hid (decide (b = 0) = false) := decide_eq_false h0
    rw [if_neg h0, if_neg h0]
    have hXlt : a < 2 ^ 256 := ha
    have HB0 : Hid (∀ (i : Nat), i < 256 → ∀ w, Calls Tryd.prog 44 #[wv a, .int .i64 (i : Int)] w fun e w' => e = .returned (.int .u64 ((a / 2 ^ i % 2 : Nat) : Int)) ∧ Below w.heap.size w w') := fun i hi w => bit_any a i (ha) hi w
    have HXl : Hid (a < 2 ^ 256) := hXlt
    have HBp : Hid (0 < b) := by show _ < _; omega
    have HTW : Hid (∀ (x y : Nat), x < M → y ≤ 1 → ∀ w, Calls Tryd.prog 48 #[wv x, .int .u64 (y : Int)] w fun e w' => e = .returned (.tuple #[wv ((2 * x + y) % M), .int .u64 (((2 * x + y) / M : Nat) : Int)]) ∧ Below w.heap.size w w') := fun x y hx hy w => twice_any x y hx hy w
    have HSB : Hid (∀ (x : Nat), x < M → ∀ w, Calls Tryd.prog 14 #[wv x, wv b] w fun e w' => e = .returned (.tuple #[wv ((x + M - b) % M), .int .u64 ((if x < b then 1 else 0 : Nat) : Int)]) ∧ Below w.heap.size w w') := fun x hx w => rsub_any x b hx hb w
    have HCM : Hid (∀ (x : Nat), x < M → ∀ w, Calls Tryd.prog 17 #[wv x, wv b] w fun e w' => e = .returned (.int .i64 (cmpN x b)) ∧ Below w.heap.size w w') := fun x hx w => rcmp_any x b hx hb w
    clear h0 ha hb hXlt
    have m := Mem.start w
    go_enter Tryd.func24, Tryd.ntmps24
    go_wp2_with ((first
      | (refine W.box m rfl (.tmp 0) rfl a rfl ?_; clear m; intro g2 wx2 m)
      | (refine W.box m rfl (.tmp 1) rfl b rfl ?_; clear m; intro g3 wx3 m)
      | (refine W.alloc m rfl rfl 4 rfl ?_; clear m; intro g4 wx4 m)
      | (refine W.alloc m rfl rfl 5 rfl ?_; clear m; intro g5 wx5 m)
      | (refine W.load m rfl (.tmp 3) rfl 2 rfl rfl ?_)
      | (refine W.build0 rfl rfl ?_)
      | (refine W.eql rfl (.tmp 13) (.tmp 14) _ rfl b 0 false HA.out HB.out HE.out rfl rfl ?_)
      | (refine W.build0 rfl rfl ?_)
      | (refine W.build0 rfl rfl ?_)
      | (refine W.alloc m rfl rfl 7 rfl ?_; clear m; intro g7 wx7 m)
      | (refine W.alloc m rfl rfl 8 rfl ?_; clear m; intro g8 wx8 m)
      | (refine W.store m rfl (.tmp 7) (.tmp 18) rfl rfl 1 0 rfl (w4_length _) rfl rfl ?_; clear m; intro wx101 m)
      | (refine W.store m rfl (.tmp 8) (.tmp 19) rfl rfl 0 0 rfl (w4_length _) rfl rfl ?_; clear m; intro wx102 m)); try simp only [Act.put, List.setIfInBounds_toArray, List.set_cons_succ, List.set_cons_zero])
    go_loopw [9] (fun n wr => ∃ k : Nat, k ≤ 256 ∧ n = .int .i64 ((k : Int) - 1) ∧ Mem w wr [⟨g8, 24, c64 (w4 (a / 2 ^ k % b))⟩, ⟨g7, 24, c64 (w4 (a / 2 ^ k / b))⟩, ⟨g5, 24, c64 (w4 0)⟩, ⟨g4, 24, c64 (w4 0)⟩, ⟨g3, 24, c64 (w4 b)⟩, ⟨g2, 24, c64 (w4 a)⟩]) (fun n _ => (intOf n + 1).toNat)
    case atStart => exact ⟨256, by omega, rfl, by rw [Nat.div_eq_of_lt HXl.out, Nat.zero_mod, Nat.zero_div]; exact m⟩
    case round =>
      clear m
      obtain ⟨k, hk, hn, m⟩ := hrel
      rcases k with _ | i
      · have hn' := hn.trans (show (Value.int .i64 (((0 : Nat) : Int) - 1)) = .int .i64 (-1) from rfl)
        subst hn'
        rw [Nat.pow_zero, Nat.div_one] at m
        clear hn HB0 HTW HSB HCM
        go_wp2
        have F := M_fit2 24 m (fun | 3 => some (c64 (w4 (a / b))) | 2 => some (c64 (w4 (a % b))) | _ => none) (fun _ _ _ _ => False) (fun _ _ _ _ _ h => h)
        refine Mild2.wp_region F (by kernel_rfl) (by kernel_rfl) (Vw.draw _) ?_
        refine Mild2.step_known F rfl rfl (wv (a / b)) (fun w0 hC _ => W.sload m hC (.tmp 7) rfl 1 rfl rfl rfl) ?_
        simp only [Act.put, List.setIfInBounds_toArray, List.set_cons_succ, List.set_cons_zero]
        refine Mild2.step_known F rfl rfl (wv (a % b)) (fun w0 hC _ => W.sload m hC (.tmp 8) rfl 0 rfl rfl rfl) ?_
        simp only [Act.put, List.setIfInBounds_toArray, List.set_cons_succ, List.set_cons_zero]
        refine Mild2.step_note rfl rfl (fun w => Arr 24 w g4 (c64 (w4 (a / b)))) (m.note 3 rfl rfl) (fun w0 hC hF => W.xstore m hC (.tmp 4) (.tmp 53) rfl 3 (a / b) rfl (w4_length _) rfl rfl rfl) ?_
        refine Mild2.step_note rfl rfl (fun w => Arr 24 w g5 (c64 (w4 (a % b)))) (m.note 2 rfl rfl) (fun w0 hC hF => W.xstore m hC (.tmp 5) (.tmp 54) rfl 2 (a % b) rfl (w4_length _) rfl rfl rfl) ?_
        iterate 1 (refine Mild2.step_quiet F rfl rfl rfl (fun w0 hC hF K hK => ?_); clear hF; go_big_quiet_op; refine hK _ ?_; clear hK K hC; clear w0)
        intro w99 hw hf
        have m9 : Mem w w99 [⟨g8, 24, c64 (w4 (a % b))⟩, ⟨g7, 24, c64 (w4 (a / b))⟩, ⟨g5, 24, c64 (w4 (a % b))⟩, ⟨g4, 24, c64 (w4 (a / b))⟩, ⟨g3, 24, c64 (w4 b)⟩, ⟨g2, 24, c64 (w4 a)⟩] := m.done hw rfl ⟨m.still hw 0 rfl rfl, m.still hw 1 rfl rfl, (hf none).2 rfl, (hf none).1.2 rfl, m.still hw 4 rfl rfl, m.still hw 5 rfl rfl, trivial⟩
        clear hf hw F m
        go_wp2
        refine bodyPost_ret (results_arr_arr_tmp Tryd.aw Tryd.results24 _ w99 g4 g5 (c64 (w4 (a / b))) (c64 (w4 (a % b))) (wl _) (wl _) rfl rfl (m9.get 3 rfl) (m9.get 2 rfl)) rfl ⟨rfl, m9.below⟩
      · have hn' : _ = Value.int .i64 (i : Int) := hn.trans (by congr 1; omega)
        subst hn'
        have hi2 : i < 256 := by omega
        obtain ⟨bt, ebt⟩ : ∃ x, a / 2 ^ i % 2 = x := ⟨_, rfl⟩
        obtain ⟨r, er⟩ : ∃ x, a / 2 ^ (i + 1) % b = x := ⟨_, rfl⟩
        have hbt : bt ≤ 1 := by omega
        have hr : r < b := by rw [← er]; exact Nat.mod_lt _ HBp.out
        have hstep := bits_step a i b
        rw [er, ebt] at hstep
        have hcase := rem_step r bt b hr HA.out hbt
        have hcl := carry_le r bt b hr HA.out hbt
        have htw := HTW.out r bt (Nat.lt_trans hr HA.out) hbt
        rw [er] at m
        obtain ⟨q, eq⟩ : ∃ x, a / 2 ^ (i + 1) / b = x := ⟨_, rfl⟩
        rw [eq] at m
        have hq1 := quo_step a i b HBp.out
        rw [eq, er, ebt] at hq1
        obtain ⟨q1, eq1⟩ : ∃ x, a / 2 ^ i / b = x := ⟨_, rfl⟩
        rw [eq1] at hq1
        have hq1M : q1 < M := by rw [← eq1]; exact Nat.lt_of_le_of_lt (Nat.div_le_self _ _) (Nat.lt_of_le_of_lt (Nat.div_le_self _ _) HXl.out)
        have hqM : q < M := by rw [← eq]; exact Nat.lt_of_le_of_lt (Nat.div_le_self _ _) (Nat.lt_of_le_of_lt (Nat.div_le_self _ _) HXl.out)
        obtain ⟨N, eN⟩ : ∃ x, (2 * r + bt) % M = x := ⟨_, rfl⟩
        obtain ⟨C, eC⟩ : ∃ x, (2 * r + bt) / M = x := ⟨_, rfl⟩
        have hNM : N < M := by rw [← eN]; exact Nat.mod_lt _ (by decide)
        rw [eN, eC] at htw hcase
        rw [eC] at hcl
        rw [hstep] at hcase
        have HTw : Hid (∀ w, Calls Tryd.prog 48 #[wv r, .int .u64 (bt : Int)] w fun e w' => e = .returned ((.tuple #[wv N, .int .u64 (C : Nat)])) ∧ Below w.heap.size w w') := htw
        obtain ⟨r1, er1⟩ : ∃ x, a / 2 ^ i % b = x := ⟨_, rfl⟩
        rw [er1] at hcase
        have hsb := HSB.out N hNM
        have hcm := HCM.out N hNM
        have hbit := HB0.out i hi2
        rw [ebt] at hbit
        have HBit : Hid (∀ w, Calls Tryd.prog 44 #[wv a, .int .i64 (i : Int)] w fun e w' => e = .returned (.int .u64 (bt : Nat)) ∧ Below w.heap.size w w') := hbit
        clear hbit
        rcases hcase with ⟨ht, hs, hq⟩ | ⟨ht, hv, hq⟩
        · rw [hs] at hsb
          obtain ⟨bo, HS⟩ : ∃ bo : Nat, Hid (∀ w, Calls Tryd.prog 14 #[wv N, wv b] w fun e w' => e = .returned ((.tuple #[wv r1, .int .u64 (bo : Nat)])) ∧ Below w.heap.size w w') := ⟨_, hsb⟩
          rw [hq] at hq1
          have HQ : Hid (∀ w, Calls Tryd.prog 48 #[wv q, .int .u64 1] w fun e w' => e = .returned ((.tuple #[wv q1, .int .u64 0])) ∧ Below w.heap.size w w') := fun w => by
            have := HTW.out q 1 hqM (by decide) w
            rw [hq1, Nat.mod_eq_of_lt hq1M, Nat.div_eq_of_lt hq1M] at this; exact this
          have HNX : Hid (a / 2 ^ i % b = r1 ∧ a / 2 ^ i / b = q1) := ⟨er1, eq1⟩
          by_cases hC1 : C = 1
          · have hCe : ((C : Int) == 1) = true := by simp; omega
            clear hcl htw hstep er ebt hbt hr eN eC hNM er1 hsb hcm hn eq hq1 eq1 hq1M hqM hs hq ht hC1
            go_wp2
            have F := N_fit 24 wr (c64 (w4 0)) (c64 (w4 N)) (fun f _ v _ => (f = 44 → v = .int .u64 (bt : Nat)) ∧ (f = 48 → v = .tuple #[wv N, .int .u64 (C : Nat)])) (fun _ _ _ _ _ h => h)
            refine Mild2.wp_region F (by kernel_rfl) (by kernel_rfl) (Vw.draw _) ?_
            refine Mild2.step_known F rfl rfl (wv r) (fun w0 hC _ => W.newload m hC (.tmp 8) rfl 0 rfl rfl) ?_
            simp only [Act.put, List.setIfInBounds_toArray, List.set_cons_succ, List.set_cons_zero]
            refine Mild2.step_known F rfl rfl (wv a) (fun w0 hC _ => W.newload m hC (.tmp 2) rfl 5 rfl rfl) ?_
            simp only [Act.put, List.setIfInBounds_toArray, List.set_cons_succ, List.set_cons_zero]
            iterate 1 (refine Mild2.step_quiet F rfl rfl rfl (fun w0 hC hF K hK => ?_); clear hF; go_big_quiet_op; refine hK _ ?_; clear hK K hC; clear w0)
            refine Mild2.step_callv rfl rfl (44) (#[wv a, .int .i64 (i : Int)]) (.int .u64 (bt : Nat)) (fun w => by go_simp) (fun w0 hC => HBit.out w0) (fun _ _ h => Vw.of_gr h) (fun _ => ⟨fun _ => rfl, fun h => absurd h (by decide)⟩) (fun _ _ h => h.1 rfl) ?_
            simp only [Act.put, List.setIfInBounds_toArray, List.set_cons_succ, List.set_cons_zero]
            refine Mild2.step_callv rfl rfl (48) (#[wv r, .int .u64 (bt : Int)]) (.tuple #[wv N, .int .u64 (C : Nat)]) (fun w => by go_simp) (fun w0 hC => HTw.out w0) (fun _ _ h => Vw.of_gr h) (fun _ => ⟨fun h => absurd h (by decide), fun _ => rfl⟩) (fun _ _ h => h.2 rfl) ?_
            simp only [Act.put, List.setIfInBounds_toArray, List.set_cons_succ, List.set_cons_zero]
            iterate 3 (refine Mild2.step_quiet F rfl rfl rfl (fun w0 hC hF K hK => ?_); clear hF; go_big_quiet_op; refine hK _ ?_; clear hK K hC; clear w0)
            refine Mild2.step_new rfl rfl (NewB 24 wr.heap.size (c64 (w4 0)) (c64 (w4 N))) (fun v => NewB.stab v) (fun w0 hC _ => W.newalloc hC rfl) ?_
            rintro _ ⟨_, _, gN, rfl, hgN, _⟩
            simp only [Act.put, List.setIfInBounds_toArray, List.set_cons_succ, List.set_cons_zero]
            refine Mild2.step_note rfl rfl (fun w => Arr 24 w gN (c64 (w4 N))) Vw.newN (fun w0 hC hF => W.newstore (.tmp 10) (.tmp 30) rfl gN hgN ((hF 10 (by simp [Oper.looksAt, Op.operands])).2 rfl) rfl rfl) ?_
            iterate 1 (refine Mild2.step_quiet F rfl rfl rfl (fun w0 hC hF K hK => ?_); clear hF; go_big_quiet_op; refine hK _ ?_; clear hK K hC; clear w0)
            intro w9 hw9 hf9
            replace m := m.doneN hw9 hgN ((hf9 none).2 rfl)
            clear hf9 hw9 F hgN
            go_wp2_with ((first
              | (refine W.load m rfl (.tmp 10) rfl 0 rfl rfl ?_)
              | (refine W.store m rfl (.tmp 8) (.tmp 32) rfl rfl 1 N rfl (w4_length _) rfl rfl ?_; clear m; intro wx103 m)
              | (refine wpList_skipG rfl ?_)
              | (refine W.load m rfl (.tmp 8) rfl 1 rfl rfl ?_)
              | (refine W.load m rfl (.tmp 3) rfl 5 rfl rfl ?_)
              | (go_at_call 14; refine (HS.out _).mono ?_; rintro e wx44 ⟨rfl, b44⟩; replace m := m.gr b44; clear b44)
              | (refine W.store m rfl (.tmp 8) (.tmp 45) rfl rfl 1 r1 rfl (w4_length _) rfl rfl ?_; clear m; intro wx104 m)
              | (refine W.load m rfl (.tmp 7) rfl 2 rfl rfl ?_)
              | (go_at_call 48; refine (HQ.out _).mono ?_; rintro e wx50 ⟨rfl, b50⟩; replace m := m.gr b50; clear b50)
              | (refine W.store m rfl (.tmp 7) (.tmp 51) rfl rfl 2 q1 rfl (w4_length _) rfl rfl ?_; clear m; intro wx105 m)); try simp only [Act.put, List.setIfInBounds_toArray, List.set_cons_succ, List.set_cons_zero])
            have m9 := Mem.sub (L' := [⟨g8, 24, c64 (w4 r1)⟩, ⟨g7, 24, c64 (w4 q1)⟩, ⟨g5, 24, c64 (w4 0)⟩, ⟨g4, 24, c64 (w4 0)⟩, ⟨g3, 24, c64 (w4 b)⟩, ⟨g2, 24, c64 (w4 a)⟩]) (show Mem w _ [⟨gN, 24, c64 (w4 N)⟩, ⟨g8, 24, c64 (w4 r1)⟩, ⟨g7, 24, c64 (w4 q1)⟩, ⟨g5, 24, c64 (w4 0)⟩, ⟨g4, 24, c64 (w4 0)⟩, ⟨g3, 24, c64 (w4 b)⟩, ⟨g2, 24, c64 (w4 a)⟩] from m) (List.sublist_cons_self _ _)
            clear m
            go_roundw
            case rel => exact ⟨i, by omega, by go_num, by rw [HNX.out.1, HNX.out.2]; exact m9⟩
            case measure => simp [intOf]
          · have hle : b ≤ N := ht.resolve_left hC1
            obtain ⟨cc, hcc, hcl2⟩ : ∃ cc : Int, cmpN N b = cc ∧ 0 ≤ cc := ⟨_, rfl, by unfold cmpN; split; omega; rw [if_neg (by omega)]; omega⟩
            have HCmp : Hid (∀ w, Calls Tryd.prog 17 #[wv N, wv b] w fun e w' => e = .returned (.int .i64 cc) ∧ Below w.heap.size w w') := fun w => by have := hcm w; rw [hcc] at this; exact this
            have hCe : ((C : Int) == 1) = false := by simp; omega
            clear hcl htw hstep er ebt hbt hr eN eC hNM er1 hsb hcm hn eq hq1 eq1 hq1M hqM hs hq ht hC1 hle hcc
            go_wp2
            have F := N_fit 24 wr (c64 (w4 0)) (c64 (w4 N)) (fun f _ v _ => (f = 44 → v = .int .u64 (bt : Nat)) ∧ (f = 48 → v = .tuple #[wv N, .int .u64 (C : Nat)])) (fun _ _ _ _ _ h => h)
            refine Mild2.wp_region F (by kernel_rfl) (by kernel_rfl) (Vw.draw _) ?_
            refine Mild2.step_known F rfl rfl (wv r) (fun w0 hC _ => W.newload m hC (.tmp 8) rfl 0 rfl rfl) ?_
            simp only [Act.put, List.setIfInBounds_toArray, List.set_cons_succ, List.set_cons_zero]
            refine Mild2.step_known F rfl rfl (wv a) (fun w0 hC _ => W.newload m hC (.tmp 2) rfl 5 rfl rfl) ?_
            simp only [Act.put, List.setIfInBounds_toArray, List.set_cons_succ, List.set_cons_zero]
            iterate 1 (refine Mild2.step_quiet F rfl rfl rfl (fun w0 hC hF K hK => ?_); clear hF; go_big_quiet_op; refine hK _ ?_; clear hK K hC; clear w0)
            refine Mild2.step_callv rfl rfl (44) (#[wv a, .int .i64 (i : Int)]) (.int .u64 (bt : Nat)) (fun w => by go_simp) (fun w0 hC => HBit.out w0) (fun _ _ h => Vw.of_gr h) (fun _ => ⟨fun _ => rfl, fun h => absurd h (by decide)⟩) (fun _ _ h => h.1 rfl) ?_
            simp only [Act.put, List.setIfInBounds_toArray, List.set_cons_succ, List.set_cons_zero]
            refine Mild2.step_callv rfl rfl (48) (#[wv r, .int .u64 (bt : Int)]) (.tuple #[wv N, .int .u64 (C : Nat)]) (fun w => by go_simp) (fun w0 hC => HTw.out w0) (fun _ _ h => Vw.of_gr h) (fun _ => ⟨fun h => absurd h (by decide), fun _ => rfl⟩) (fun _ _ h => h.2 rfl) ?_
            simp only [Act.put, List.setIfInBounds_toArray, List.set_cons_succ, List.set_cons_zero]
            iterate 3 (refine Mild2.step_quiet F rfl rfl rfl (fun w0 hC hF K hK => ?_); clear hF; go_big_quiet_op; refine hK _ ?_; clear hK K hC; clear w0)
            refine Mild2.step_new rfl rfl (NewB 24 wr.heap.size (c64 (w4 0)) (c64 (w4 N))) (fun v => NewB.stab v) (fun w0 hC _ => W.newalloc hC rfl) ?_
            rintro _ ⟨_, _, gN, rfl, hgN, _⟩
            simp only [Act.put, List.setIfInBounds_toArray, List.set_cons_succ, List.set_cons_zero]
            refine Mild2.step_note rfl rfl (fun w => Arr 24 w gN (c64 (w4 N))) Vw.newN (fun w0 hC hF => W.newstore (.tmp 10) (.tmp 30) rfl gN hgN ((hF 10 (by simp [Oper.looksAt, Op.operands])).2 rfl) rfl rfl) ?_
            iterate 1 (refine Mild2.step_quiet F rfl rfl rfl (fun w0 hC hF K hK => ?_); clear hF; go_big_quiet_op; refine hK _ ?_; clear hK K hC; clear w0)
            intro w9 hw9 hf9
            replace m := m.doneN hw9 hgN ((hf9 none).2 rfl)
            clear hf9 hw9 F hgN
            go_wp2_with ((first
              | (refine W.load m rfl (.tmp 10) rfl 0 rfl rfl ?_)
              | (refine W.store m rfl (.tmp 8) (.tmp 32) rfl rfl 1 N rfl (w4_length _) rfl rfl ?_; clear m; intro wx103 m)
              | (refine wpList_valG rfl (wv N) (W.xload m (Gr.refl _) (.tmp 8) rfl 1 rfl rfl) ?_)
              | (refine wpList_valG rfl (wv b) (W.xload m (Gr.refl _) (.tmp 3) rfl 5 rfl rfl) ?_)
              | (go_at_call 17; refine (HCmp.out _).mono ?_; rintro e wx38 ⟨rfl, b38⟩; replace m := m.gr b38; clear b38)
              | (refine wpList_skipG rfl ?_)
              | (refine W.load m rfl (.tmp 8) rfl 1 rfl rfl ?_)
              | (refine W.load m rfl (.tmp 3) rfl 5 rfl rfl ?_)
              | (go_at_call 14; refine (HS.out _).mono ?_; rintro e wx44 ⟨rfl, b44⟩; replace m := m.gr b44; clear b44)
              | (refine W.store m rfl (.tmp 8) (.tmp 45) rfl rfl 1 r1 rfl (w4_length _) rfl rfl ?_; clear m; intro wx104 m)
              | (refine W.load m rfl (.tmp 7) rfl 2 rfl rfl ?_)
              | (go_at_call 48; refine (HQ.out _).mono ?_; rintro e wx50 ⟨rfl, b50⟩; replace m := m.gr b50; clear b50)
              | (refine W.store m rfl (.tmp 7) (.tmp 51) rfl rfl 2 q1 rfl (w4_length _) rfl rfl ?_; clear m; intro wx105 m)); try simp only [Act.put, List.setIfInBounds_toArray, List.set_cons_succ, List.set_cons_zero])
            have m9 := Mem.sub (L' := [⟨g8, 24, c64 (w4 r1)⟩, ⟨g7, 24, c64 (w4 q1)⟩, ⟨g5, 24, c64 (w4 0)⟩, ⟨g4, 24, c64 (w4 0)⟩, ⟨g3, 24, c64 (w4 b)⟩, ⟨g2, 24, c64 (w4 a)⟩]) (show Mem w _ [⟨gN, 24, c64 (w4 N)⟩, ⟨g8, 24, c64 (w4 r1)⟩, ⟨g7, 24, c64 (w4 q1)⟩, ⟨g5, 24, c64 (w4 0)⟩, ⟨g4, 24, c64 (w4 0)⟩, ⟨g3, 24, c64 (w4 b)⟩, ⟨g2, 24, c64 (w4 a)⟩] from m) (List.sublist_cons_self _ _)
            clear m
            go_roundw
            case rel => exact ⟨i, by omega, by go_num, by rw [HNX.out.1, HNX.out.2]; exact m9⟩
            case measure => simp [intOf]
        · have hC1 : C ≠ 1 := fun h => ht (.inl h)
          have hlt : N < b := Nat.lt_of_not_le (fun h => ht (.inr h))
          have hcc : cmpN N b = -1 := by unfold cmpN; rw [if_neg (by omega), if_pos hlt]
          have HCmp : Hid (∀ w, Calls Tryd.prog 17 #[wv N, wv b] w fun e w' => e = .returned (.int .i64 (-1)) ∧ Below w.heap.size w w') := fun w => by have := hcm w; rw [hcc] at this; exact this
          rw [hq] at hq1
          have HQ : Hid (∀ w, Calls Tryd.prog 48 #[wv q, .int .u64 0] w fun e w' => e = .returned ((.tuple #[wv q1, .int .u64 0])) ∧ Below w.heap.size w w') := fun w => by
            have := HTW.out q 0 hqM (by decide) w
            rw [hq1, Nat.mod_eq_of_lt hq1M, Nat.div_eq_of_lt hq1M] at this; exact this
          have HNX : Hid (a / 2 ^ i % b = N ∧ a / 2 ^ i / b = q1) := ⟨(by rw [er1, hv]), eq1⟩
          have hCe : ((C : Int) == 1) = false := by simp; omega
          clear hcl htw hstep er ebt hbt hr eN eC hNM er1 hsb hcm hn eq hq1 eq1 hq1M hqM hv hq ht hC1 hlt hcc
          go_wp2
          have F := N_fit 24 wr (c64 (w4 0)) (c64 (w4 N)) (fun f _ v _ => (f = 44 → v = .int .u64 (bt : Nat)) ∧ (f = 48 → v = .tuple #[wv N, .int .u64 (C : Nat)])) (fun _ _ _ _ _ h => h)
          refine Mild2.wp_region F (by kernel_rfl) (by kernel_rfl) (Vw.draw _) ?_
          refine Mild2.step_known F rfl rfl (wv r) (fun w0 hC _ => W.newload m hC (.tmp 8) rfl 0 rfl rfl) ?_
          simp only [Act.put, List.setIfInBounds_toArray, List.set_cons_succ, List.set_cons_zero]
          refine Mild2.step_known F rfl rfl (wv a) (fun w0 hC _ => W.newload m hC (.tmp 2) rfl 5 rfl rfl) ?_
          simp only [Act.put, List.setIfInBounds_toArray, List.set_cons_succ, List.set_cons_zero]
          iterate 1 (refine Mild2.step_quiet F rfl rfl rfl (fun w0 hC hF K hK => ?_); clear hF; go_big_quiet_op; refine hK _ ?_; clear hK K hC; clear w0)
          refine Mild2.step_callv rfl rfl (44) (#[wv a, .int .i64 (i : Int)]) (.int .u64 (bt : Nat)) (fun w => by go_simp) (fun w0 hC => HBit.out w0) (fun _ _ h => Vw.of_gr h) (fun _ => ⟨fun _ => rfl, fun h => absurd h (by decide)⟩) (fun _ _ h => h.1 rfl) ?_
          simp only [Act.put, List.setIfInBounds_toArray, List.set_cons_succ, List.set_cons_zero]
          refine Mild2.step_callv rfl rfl (48) (#[wv r, .int .u64 (bt : Int)]) (.tuple #[wv N, .int .u64 (C : Nat)]) (fun w => by go_simp) (fun w0 hC => HTw.out w0) (fun _ _ h => Vw.of_gr h) (fun _ => ⟨fun h => absurd h (by decide), fun _ => rfl⟩) (fun _ _ h => h.2 rfl) ?_
          simp only [Act.put, List.setIfInBounds_toArray, List.set_cons_succ, List.set_cons_zero]
          iterate 3 (refine Mild2.step_quiet F rfl rfl rfl (fun w0 hC hF K hK => ?_); clear hF; go_big_quiet_op; refine hK _ ?_; clear hK K hC; clear w0)
          refine Mild2.step_new rfl rfl (NewB 24 wr.heap.size (c64 (w4 0)) (c64 (w4 N))) (fun v => NewB.stab v) (fun w0 hC _ => W.newalloc hC rfl) ?_
          rintro _ ⟨_, _, gN, rfl, hgN, _⟩
          simp only [Act.put, List.setIfInBounds_toArray, List.set_cons_succ, List.set_cons_zero]
          refine Mild2.step_note rfl rfl (fun w => Arr 24 w gN (c64 (w4 N))) Vw.newN (fun w0 hC hF => W.newstore (.tmp 10) (.tmp 30) rfl gN hgN ((hF 10 (by simp [Oper.looksAt, Op.operands])).2 rfl) rfl rfl) ?_
          iterate 1 (refine Mild2.step_quiet F rfl rfl rfl (fun w0 hC hF K hK => ?_); clear hF; go_big_quiet_op; refine hK _ ?_; clear hK K hC; clear w0)
          intro w9 hw9 hf9
          replace m := m.doneN hw9 hgN ((hf9 none).2 rfl)
          clear hf9 hw9 F hgN
          go_wp2_with ((first
            | (refine W.load m rfl (.tmp 10) rfl 0 rfl rfl ?_)
            | (refine W.store m rfl (.tmp 8) (.tmp 32) rfl rfl 1 N rfl (w4_length _) rfl rfl ?_; clear m; intro wx103 m)
            | (refine wpList_valG rfl (wv N) (W.xload m (Gr.refl _) (.tmp 8) rfl 1 rfl rfl) ?_)
            | (refine wpList_valG rfl (wv b) (W.xload m (Gr.refl _) (.tmp 3) rfl 5 rfl rfl) ?_)
            | (go_at_call 17; refine (HCmp.out _).mono ?_; rintro e wx38 ⟨rfl, b38⟩; replace m := m.gr b38; clear b38)
            | (refine wpList_skipG rfl ?_)
            | (refine W.load m rfl (.tmp 7) rfl 2 rfl rfl ?_)
            | (go_at_call 48; refine (HQ.out _).mono ?_; rintro e wx50 ⟨rfl, b50⟩; replace m := m.gr b50; clear b50)
            | (refine W.store m rfl (.tmp 7) (.tmp 51) rfl rfl 2 q1 rfl (w4_length _) rfl rfl ?_; clear m; intro wx104 m)); try simp only [Act.put, List.setIfInBounds_toArray, List.set_cons_succ, List.set_cons_zero])
          have m9 := Mem.sub (L' := [⟨g8, 24, c64 (w4 N)⟩, ⟨g7, 24, c64 (w4 q1)⟩, ⟨g5, 24, c64 (w4 0)⟩, ⟨g4, 24, c64 (w4 0)⟩, ⟨g3, 24, c64 (w4 b)⟩, ⟨g2, 24, c64 (w4 a)⟩]) (show Mem w _ [⟨gN, 24, c64 (w4 N)⟩, ⟨g8, 24, c64 (w4 N)⟩, ⟨g7, 24, c64 (w4 q1)⟩, ⟨g5, 24, c64 (w4 0)⟩, ⟨g4, 24, c64 (w4 0)⟩, ⟨g3, 24, c64 (w4 b)⟩, ⟨g2, 24, c64 (w4 a)⟩] from m) (List.sublist_cons_self _ _)
          clear m
          go_roundw
          case rel => exact ⟨i, by omega, by go_num, by rw [HNX.out.1, HNX.out.2]; exact m9⟩
          case measure => simp [intOf]
end Go.Proofs.YtijghhecclaafaaDoor
