/-
  Contracts of math/bits' Div64 (the divisor's highest bit is set), and of package wide's guess and divideWord.
-/
import Derived.Test.YtijghhecclaafaaDoorV9
import Derived.Test.YtijghhecclaafaaDoorMem2
import Derived.Test.YtijghhecclaafaaDoorWd4
import Derived.Test.YtijghhecclaafaaDoorV3
namespace Go.Proofs.YtijghhecclaafaaDoor
open Go.RowKit

set_option maxHeartbeats 1000000 in
theorem div64_zero (l y : Nat) (hy : y ≠ 0) (hl : l < 18446744073709551616) (w : World) :
    Calls Tryd.prog 59 #[.int .u64 ((0 : Nat) : Int), .int .u64 (l : Int), .int .u64 (y : Int)] w fun e w' => (∃ r, e = .returned (.tuple #[.int .u64 ((l / y : Nat) : Int), r])) ∧ Below w.heap.size w w' := by
  have y0 : ((y : Int) == 0) = false := by simp; omega
  have yh : ¬ ((y : Int) ≤ 0) := by omega
  obtain ⟨q, hq⟩ : ∃ q, l / y = q := ⟨_, rfl⟩
  obtain ⟨r, hr⟩ : ∃ q, l % y = q := ⟨_, rfl⟩
  have HQ : Hid (l / y = q) := hq
  have HR : Hid (l % y = r) := hr
  have HL : Hid (l < 18446744073709551616) := hl
  have HY : Hid (y ≠ 0) := hy
  rw [hq]
  clear hq hr hl hy
  go_enter Tryd.func59, Tryd.ntmps59
  go_wp2
  have F := N_fit 24 w [] [] (fun _ _ _ _ => False) (fun _ _ _ _ _ h => h)
  refine Mild2.wp_region F (by kernel_rfl) (by kernel_rfl) (Vw.draw _) ?_
  iterate 2 (refine Mild2.step_quiet F rfl rfl rfl (fun w0 hC hF K hK => ?_); clear hF; go_big_quiet_op; refine hK _ ?_; clear hK K hC; clear w0)
  refine Mild2.step_known F rfl rfl (.int .u64 (q : Nat)) (fun w0 hC _ => exec_quoU (.tmp 28) (.tmp 29) _ _ rfl l y q HQ.out HL.out HY.out rfl rfl) ?_
  simp only [Act.put, List.setIfInBounds_toArray, List.set_cons_succ, List.set_cons_zero]
  iterate 2 (refine Mild2.step_quiet F rfl rfl rfl (fun w0 hC hF K hK => ?_); clear hF; go_big_quiet_op; refine hK _ ?_; clear hK K hC; clear w0)
  refine Mild2.step_known F rfl rfl (.int .u64 (r : Nat)) (fun w0 hC _ => exec_remN (.tmp 31) (.tmp 32) _ _ rfl l y r HR.out HY.out .u64 rfl rfl) ?_
  simp only [Act.put, List.setIfInBounds_toArray, List.set_cons_succ, List.set_cons_zero]
  iterate 2 (refine Mild2.step_quiet F rfl rfl rfl (fun w0 hC hF K hK => ?_); clear hF; go_big_quiet_op; refine hK _ ?_; clear hK K hC; clear w0)
  intro w8 hw8 hf8
  have hb8 : Below w.heap.size w w8 := hw8.below (fun _ _ _ hv => hv.1) (Nat.le_refl _)
  clear hf8 hw8 F
  go_wp2
  go_ret2
  exact ⟨⟨_, rfl⟩, hb8⟩

theorem div64_any (h l y : Nat) (hy : 9223372036854775808 ≤ y) (hyB : y < 18446744073709551616) (hh : h < y) (hl : l < 18446744073709551616) (w : World) :
    Calls Tryd.prog 59 #[.int .u64 (h : Int), .int .u64 (l : Int), .int .u64 (y : Int)] w fun e w' => (∃ r, e = .returned (.tuple #[.int .u64 (((h * 18446744073709551616 + l) / y : Nat) : Int), r])) ∧ Below w.heap.size w w' := by
  by_cases h0 : h = 0
  · subst h0
    have := div64_zero l y (by omega) hl w
    rw [Nat.zero_mul, Nat.zero_add]
    exact this
  · refine (div64_big h l y hy hyB hh hl h0 w).mono ?_
    rintro e w' ⟨r, rfl, rfl⟩
    exact ⟨⟨r, rfl⟩, Below.refl _ _⟩

theorem guess_any (t n d : Nat) (hd : 9223372036854775808 ≤ d) (hdB : d < 18446744073709551616) (hn : n < 18446744073709551616) (w : World) :
    Calls Tryd.prog 54 #[.int .u64 (t : Int), .int .u64 (n : Int), .int .u64 (d : Int)] w fun e w' => e = .returned (.int .u64 ((gsN t n d : Nat) : Int)) ∧ Below w.heap.size w w' := by
  by_cases h : d ≤ t
  · have HT : Hid (decide (d ≤ t) = true) := decide_eq_true h
    have HR : Hid (gsN t n d = 18446744073709551615) := by show _ = _; unfold gsN; rw [if_pos h]
    clear h hd hdB hn
    go_enter Tryd.func54, Tryd.ntmps54
    go_wp2_with ((first
      | (refine wpList_val rfl (.bool true) (exec_geqU (.tmp 9) (.tmp 10) _ _ rfl t d true HT.out .u64 rfl rfl) ?_)); try simp only [Act.put, List.setIfInBounds_toArray, List.set_cons_succ, List.set_cons_zero])
    go_ret
    exact ⟨by rw [HR.out]; rfl, Below.refl _ _⟩
  · have HT : Hid (decide (d ≤ t) = false) := decide_eq_false h
    have HR : Hid (gsN t n d = (t * 18446744073709551616 + n) / d) := by show _ = _; unfold gsN; rw [if_neg h]
    have HC : Hid (∀ w, Calls Tryd.prog 59 #[.int .u64 (t : Int), .int .u64 (n : Int), .int .u64 (d : Int)] w fun e w' => (∃ r, e = .returned (.tuple #[.int .u64 ((gsN t n d : Nat) : Int), r])) ∧ Below w.heap.size w w') := fun w => by
      rw [HR.out]; exact div64_any t n d hd hdB (by omega) hn w
    clear h hd hdB hn HR
    go_enter Tryd.func54, Tryd.ntmps54
    go_wp2_with ((first
      | (refine wpList_val rfl (.bool false) (exec_geqU (.tmp 9) (.tmp 10) _ _ rfl t d false HT.out .u64 rfl rfl) ?_)
      | (go_at_call 59; refine (HC.out _).mono ?_; rintro e w7 ⟨⟨r, rfl⟩, b7⟩)); try simp only [Act.put, List.setIfInBounds_toArray, List.set_cons_succ, List.set_cons_zero])
    go_ret
    exact ⟨rfl, b7⟩

theorem exec_eqlU {P : Program} {ρ : Operand → Value} {o : Oper} {w : World} (x y : Operand) (T U : TypeId) (ho : o.op = .binOp .eql T x y U) (X Y : Nat) (b : Bool) (hb : decide (X = Y) = b) (k : IntKind) (hx : ρ x = .int k (X : Int)) (hy : ρ y = .int k (Y : Int)) :
    (execOp ρ o).run P w = .ok (.value (.bool b)) w := by
  subst hb
  unfold execOp
  have e : ((X : Int) == (Y : Int)) = decide (X = Y) := by rw [Bool.eq_iff_iff]; simp; omega
  simp [ho, hx, hy, eqGuard, binOp, Op.intCmp, e]

set_option maxRecDepth 20000 in
set_option maxHeartbeats 2000000 in
theorem divideWord_any (h n d : Nat) (hd : d < M) (hd2 : 57896044618658097711785492504343953926634992332820282019728792003956564819968 ≤ d) (hh : h < d) (hn : n < 18446744073709551616) (w : World) :
    Calls Tryd.prog 52 #[wv h, .int .u64 (n : Int), wv d] w fun e w' => e = .returned (.tuple #[.int .u64 (((h * 18446744073709551616 + n) / d : Nat) : Int), wv ((h * 18446744073709551616 + n) % d)]) ∧ Below w.heap.size w w' := by
  obtain ⟨low, hlow, hT, hlw⟩ := up_word h n (by omega) hn
  have hge := gs_ge h n d hd hd2 hh hn
  have hgl := gs_lt (gw (w4 h) 3) (gw (w4 h) 2) (gw (w4 d) 3) (top_ge d hd hd2) (gw_lt h 2)
  have hg := fun w => guess_any (gw (w4 h) 3) (gw (w4 h) 2) (gw (w4 d) 3) (top_ge d hd hd2) (gw_lt d 3) (gw_lt h 2) w
  obtain ⟨h0, e0⟩ : ∃ x, gw (w4 h) 0 = x := ⟨_, rfl⟩
  obtain ⟨h1, e1⟩ : ∃ x, gw (w4 h) 1 = x := ⟨_, rfl⟩
  obtain ⟨h2, e2⟩ : ∃ x, gw (w4 h) 2 = x := ⟨_, rfl⟩
  obtain ⟨h3, e3⟩ : ∃ x, gw (w4 h) 3 = x := ⟨_, rfl⟩
  obtain ⟨d3, ed⟩ : ∃ x, gw (w4 d) 3 = x := ⟨_, rfl⟩
  rw [e0, e1, e2] at hlw
  rw [e3] at hT
  rw [e2, e3, ed] at hge hgl hg
  obtain ⟨x0, ex⟩ : ∃ x, gsN h3 h2 d3 = x := ⟨_, rfl⟩
  rw [ex] at hge hgl hg
  obtain ⟨T, eT⟩ : ∃ x, h * 18446744073709551616 + n = x := ⟨_, rfl⟩
  rw [eT] at hge hT ⊢
  have htp := fun (x : Nat) (hx : x < 18446744073709551616) w => timesPlus_any d x 0 hd hx (by decide) w
  have HT : Hid (T = h3 * M + low) := hT
  have HLOW : Hid (low < M) := hlow
  have HLW : Hid (w4 low = [n, h0, h1, h2]) := hlw
  have E0 : Hid (gw (w4 h) 0 = h0) := e0
  have E1 : Hid (gw (w4 h) 1 = h1) := e1
  have E2 : Hid (gw (w4 h) 2 = h2) := e2
  have E3 : Hid (gw (w4 h) 3 = h3) := e3
  have D3 : Hid (gw (w4 d) 3 = d3) := ed
  have HD : Hid (d < M ∧ 0 < d) := ⟨hd, by omega⟩
  have HGE : Hid (T / d ≤ x0 ∧ x0 < 18446744073709551616) := ⟨hge, hgl⟩
  have HG : Hid (∀ w, Calls Tryd.prog 54 #[.int .u64 (h3 : Int), .int .u64 (h2 : Int), .int .u64 (d3 : Int)] w fun e w' => e = .returned (.int .u64 (x0 : Int)) ∧ Below w.heap.size w w') := hg
  obtain ⟨P0, eP⟩ : ∃ x, d * x0 % M = x := ⟨_, rfl⟩
  obtain ⟨O0, eO⟩ : ∃ x, d * x0 / M = x := ⟨_, rfl⟩
  have HP : Hid (∀ w, Calls Tryd.prog 45 #[wv d, .int .u64 (x0 : Int), wv 0] w fun e w' => e = .returned (.tuple #[wv P0, .int .u64 (O0 : Int)]) ∧ Below w.heap.size w w') := fun w => by
    have := htp x0 hgl w; rw [Nat.add_zero, eP, eO] at this; exact this
  have HPE : Hid (x0 * d % M = P0 ∧ x0 * d / M = O0) := by rw [Nat.mul_comm x0 d]; exact ⟨eP, eO⟩
  clear hlow hT hge hgl hg e0 e1 e2 e3 ed ex eT htp eP eO hd hd2 hh hn hlw
  have m := Mem.start w
  go_enter Tryd.func52, Tryd.ntmps52
  go_wp2_with ((first
    | (refine W.box m rfl (.tmp 0) rfl h rfl ?_; clear m; intro g3 wx3 m)
    | (refine W.box m rfl (.tmp 2) rfl d rfl ?_; clear m; intro g5 wx5 m)
    | (refine W.alloc m rfl rfl 7 rfl ?_; clear m; intro g7 wx7 m)); try simp only [Act.put, List.setIfInBounds_toArray, List.set_cons_succ, List.set_cons_zero])
  have F := N_fit 24 wx7 (c64 (w4 0)) (c64 (w4 low)) (fun _ _ _ _ => False) (fun _ _ _ _ _ h => h)
  refine Mild2.wp_region F (by kernel_rfl) (by kernel_rfl) (Vw.draw _) ?_
  iterate 1 (refine Mild2.step_quiet F rfl rfl rfl (fun w0 hC hF K hK => ?_); clear hF; go_big_quiet_op; refine hK _ ?_; clear hK K hC; clear w0)
  refine Mild2.step_known F rfl rfl (.pointer (some ⟨g3, 0, none⟩)) (fun w0 hC _ => W.xidx (.tmp 3) (.const (.int .i64 0)) rfl g3 0 .i64 0 rfl (by decide) rfl rfl) ?_
  simp only [Act.put, List.setIfInBounds_toArray, List.set_cons_succ, List.set_cons_zero]
  refine Mild2.step_known F rfl rfl (.int .u64 (h0 : Nat)) (fun w0 hC _ => W.newget m hC (.tmp 17) rfl 2 0 h0 rfl (by decide) E0.out rfl) ?_
  simp only [Act.put, List.setIfInBounds_toArray, List.set_cons_succ, List.set_cons_zero]
  refine Mild2.step_known F rfl rfl (.pointer (some ⟨g3, 1, none⟩)) (fun w0 hC _ => W.xidx (.tmp 3) (.const (.int .i64 1)) rfl g3 1 .i64 1 rfl (by decide) rfl rfl) ?_
  simp only [Act.put, List.setIfInBounds_toArray, List.set_cons_succ, List.set_cons_zero]
  refine Mild2.step_known F rfl rfl (.int .u64 (h1 : Nat)) (fun w0 hC _ => W.newget m hC (.tmp 19) rfl 2 1 h1 rfl (by decide) E1.out rfl) ?_
  simp only [Act.put, List.setIfInBounds_toArray, List.set_cons_succ, List.set_cons_zero]
  refine Mild2.step_known F rfl rfl (.pointer (some ⟨g3, 2, none⟩)) (fun w0 hC _ => W.xidx (.tmp 3) (.const (.int .i64 2)) rfl g3 2 .i64 2 rfl (by decide) rfl rfl) ?_
  simp only [Act.put, List.setIfInBounds_toArray, List.set_cons_succ, List.set_cons_zero]
  refine Mild2.step_known F rfl rfl (.int .u64 (h2 : Nat)) (fun w0 hC _ => W.newget m hC (.tmp 21) rfl 2 2 h2 rfl (by decide) E2.out rfl) ?_
  simp only [Act.put, List.setIfInBounds_toArray, List.set_cons_succ, List.set_cons_zero]
  refine Mild2.step_known F rfl rfl (wv low) (fun w0 hC _ => exec_build4 Tryd.aw (.tmp 16) (.tmp 18) (.tmp 20) (.tmp 22) rfl (w4 low) n h0 h1 h2 HLW.out rfl rfl rfl rfl) ?_
  simp only [Act.put, List.setIfInBounds_toArray, List.set_cons_succ, List.set_cons_zero]
  refine Mild2.step_known F rfl rfl (.pointer (some ⟨g3, 3, none⟩)) (fun w0 hC _ => W.xidx (.tmp 3) (.const (.int .i64 3)) rfl g3 3 .i64 3 rfl (by decide) rfl rfl) ?_
  simp only [Act.put, List.setIfInBounds_toArray, List.set_cons_succ, List.set_cons_zero]
  refine Mild2.step_known F rfl rfl (.int .u64 (h3 : Nat)) (fun w0 hC _ => W.newget m hC (.tmp 24) rfl 2 3 h3 rfl (by decide) E3.out rfl) ?_
  simp only [Act.put, List.setIfInBounds_toArray, List.set_cons_succ, List.set_cons_zero]
  refine Mild2.step_new rfl rfl (NewB 24 wx7.heap.size (c64 (w4 0)) (c64 (w4 low))) (fun v => NewB.stab v) (fun w0 hC _ => W.newalloc hC rfl) ?_
  rintro _ ⟨_, _, g8, rfl, hg8, _⟩
  simp only [Act.put, List.setIfInBounds_toArray, List.set_cons_succ, List.set_cons_zero]
  refine Mild2.step_note rfl rfl (fun w => Arr 24 w g8 (c64 (w4 low))) Vw.newN (fun w0 hC hF => W.newstore (.tmp 8) (.tmp 23) rfl g8 hg8 ((hF 8 (by simp [Oper.looksAt, Op.operands])).2 rfl) rfl rfl) ?_
  iterate 1 (refine Mild2.step_quiet F rfl rfl rfl (fun w0 hC hF K hK => ?_); clear hF; go_big_quiet_op; refine hK _ ?_; clear hK K hC; clear w0)
  intro w8 hw8 hf8
  replace m := m.doneN hw8 hg8 ((hf8 none).2 rfl)
  clear hf8 hw8 F hg8
  go_wp2_with ((first
    | (refine W.idx rfl (.tmp 3) (.const (.int .i64 2)) rfl g3 2 .i64 2 rfl (by decide) rfl rfl ?_)
    | (refine W.get m rfl (.tmp 27) rfl 3 2 h2 rfl (by decide) E2.out rfl ?_)
    | (refine W.idx rfl (.tmp 5) (.const (.int .i64 3)) rfl g5 3 .i64 3 rfl (by decide) rfl rfl ?_)
    | (refine W.get m rfl (.tmp 29) rfl 2 3 d3 rfl (by decide) D3.out rfl ?_)
    | (go_at_call 54; refine (HG.out _).mono ?_; rintro e wx31 ⟨rfl, b31⟩; replace m := m.gr b31; clear b31)
    | (refine W.load m rfl (.tmp 5) rfl 2 rfl rfl ?_)
    | (refine W.build0 rfl rfl ?_)
    | (go_at_call 45; refine (HP.out _).mono ?_; rintro e wx36 ⟨rfl, b36⟩; replace m := m.gr b36; clear b36)
    | (refine W.alloc m rfl rfl 11 rfl ?_; clear m; intro g11 wx11 m)
    | (refine W.store m rfl (.tmp 11) (.tmp 37) rfl rfl 0 P0 rfl (w4_length _) rfl rfl ?_; clear m; intro wx101 m)); try simp only [Act.put, List.setIfInBounds_toArray, List.set_cons_succ, List.set_cons_zero])
  go_loopw [10, 12] (fun a b wr => ∃ x : Nat, a = .int .u64 (x : Int) ∧ b = .int .u64 ((x * d / M : Nat) : Int) ∧ T / d ≤ x ∧ x < 18446744073709551616 ∧ Mem w wr [⟨g11, 24, c64 (w4 (x * d % M))⟩, ⟨g8, 24, c64 (w4 low)⟩, ⟨g7, 24, c64 (w4 0)⟩, ⟨g5, 24, c64 (w4 d)⟩, ⟨g3, 24, c64 (w4 h)⟩]) (fun a _ _ => (intOf a).toNat)
  case atStart => exact ⟨x0, rfl, by rw [HPE.out.2], HGE.out.1, HGE.out.2, by rw [HPE.out.1]; exact m⟩
  case round =>
    clear m
    obtain ⟨x, rfl, rfl, hx1, hx2, m⟩ := hrel
    have hov := over_iff x d T h3 low HLOW.out HT.out
    have hls := less_step x d HD.out.1
    have hle : T < x * d → T / d < x := fun h => (Nat.div_lt_iff_lt_mul HD.out.2).2 h
    have heq : ¬ T < x * d → T / d = x := fun h => Nat.le_antisymm hx1 ((Nat.le_div_iff_mul_le HD.out.2).2 (by omega))
    have hro := fun hq => rest_of x d T h3 low HLOW.out HT.out HD.out.2 HD.out.1 hq
    have hpl : x * d % M < M := Nat.mod_lt _ (by decide)
    have hsub := fun w => sub_any (x * d % M) d hpl HD.out.1 w
    have hcmp := fun w => cmp_any (x * d % M) low hpl HLOW.out w
    have hend := fun w => sub_any low (x * d % M) HLOW.out hpl w
    have hxm : x * d / M < 18446744073709551616 := by
      rw [Nat.div_lt_iff_lt_mul (by decide)]
      have h1 := Nat.mul_le_mul (show x ≤ 18446744073709551615 by omega) (show d ≤ M - 1 by have := HD.out.1; omega)
      have h2 : 18446744073709551615 * (M - 1) < 18446744073709551616 * M := by decide
      exact Nat.lt_of_le_of_lt h1 h2
    obtain ⟨p, hp⟩ : ∃ p, x * d % M = p := ⟨_, rfl⟩
    obtain ⟨o, ho⟩ : ∃ p, x * d / M = p := ⟨_, rfl⟩
    rw [hp, ho] at hov hls
    rw [ho] at hxm
    rw [hp] at hro hsub hcmp hend m
    rw [ho]
    have go : T < x * d → ∃ y p1 bo o1, Hid (y + 1 = x ∧ x < 18446744073709551616) ∧ Hid (o1 + bo = o ∧ o < 18446744073709551616) ∧ Hid (y * d / M = o1 ∧ T / d ≤ y ∧ y < 18446744073709551616 ∧ y * d % M = p1 ∧ y < x) ∧ Hid (∀ w, Calls Tryd.prog 13 #[wv p, wv d] w fun e w' => e = .returned (.tuple #[wv p1, .int .u64 (bo : Int)]) ∧ Below w.heap.size w w') := by
      intro hlt
      have h1 := hle hlt
      have h2 : 1 ≤ x := Nat.lt_of_le_of_lt (Nat.zero_le _) h1
      obtain ⟨l1, l2⟩ := hls h2
      refine ⟨x - 1, _, _, _, ⟨by omega, hx2⟩, ⟨l2.symm, hxm⟩, ⟨rfl, Nat.le_sub_one_of_lt h1, by omega, l1.symm, by omega⟩, hsub⟩
    have stop : ¬ T < x * d → ∃ R bz, Hid (T / d = x ∧ T % d = R) ∧ Hid (∀ w, Calls Tryd.prog 13 #[wv low, wv p] w fun e w' => e = .returned (.tuple #[wv R, .int .u64 (bz : Int)]) ∧ Below w.heap.size w w') := by
      intro hlt
      have h1 := heq hlt
      exact ⟨_, _, ⟨h1, rfl⟩, fun w => by have := hend w; rw [hro h1] at this; exact this⟩
    clear hls hle heq hro hpl hsub hend hxm hp ho hx1 hx2
    by_cases c1 : h3 < o
    · have T1 : Hid (decide (h3 < o) = true) := decide_eq_true c1
      obtain ⟨y, p1, bo, o1, Y1, Y2, Y3, HS⟩ := go (hov.1 (.inl c1))
      clear go stop hov c1 hcmp
      go_wp2_with ((first
        | (refine wpList_val rfl (.bool true) (exec_gtrU (.tmp 39) (.tmp 40) _ _ rfl o h3 true T1.out .u64 rfl rfl) ?_)
        | (refine wpList_skipG rfl ?_)
        | (refine wpList_val rfl (.int .u64 (y : Int)) (exec_subU (.tmp 53) (.const (.int .u64 1)) _ _ rfl x 1 y Y1.out.1 Y1.out.2 rfl rfl) ?_)
        | (refine W.load m rfl (.tmp 11) rfl 0 rfl rfl ?_)
        | (refine W.load m rfl (.tmp 5) rfl 3 rfl rfl ?_)
        | (go_at_call 13; refine (HS.out _).mono ?_; rintro e wx58 ⟨rfl, b58⟩; replace m := m.gr b58; clear b58)
        | (refine W.store m rfl (.tmp 11) (.tmp 59) rfl rfl 0 p1 rfl (w4_length _) rfl rfl ?_; clear m; intro wx102 m)
        | (refine wpList_val rfl (.int .u64 (o1 : Int)) (exec_subU (.tmp 61) (.tmp 62) _ _ rfl o bo o1 Y2.out.1 Y2.out.2 rfl rfl) ?_)); try simp only [Act.put, List.setIfInBounds_toArray, List.set_cons_succ, List.set_cons_zero])
      go_roundw
      case rel => exact ⟨y, rfl, by rw [Y3.out.1], Y3.out.2.1, Y3.out.2.2.1, by rw [Y3.out.2.2.2.1]; exact m⟩
      case measure => have := Y3.out.2.2.2.2; simp [intOf]; omega
    · have T1 : Hid (decide (h3 < o) = false) := decide_eq_false c1
      by_cases c2 : o = h3
      · have T2 : Hid (decide (o = h3) = true) := decide_eq_true c2
        by_cases c3 : low < p
        · have HCmp : Hid (∀ w, Calls Tryd.prog 16 #[wv p, wv low] w fun e w' => e = .returned (.int .i64 1) ∧ Below w.heap.size w w') := fun w => by
            have := hcmp w
            have e : cmpN p low = 1 := by unfold cmpN; rw [if_neg (by omega), if_neg (by omega)]
            rw [e] at this; exact this
          obtain ⟨y, p1, bo, o1, Y1, Y2, Y3, HS⟩ := go (hov.1 (.inr ⟨c2, c3⟩))
          clear go stop hov c1 c2 c3 hcmp
          go_wp2_with ((first
            | (refine wpList_val rfl (.bool false) (exec_gtrU (.tmp 39) (.tmp 40) _ _ rfl o h3 false T1.out .u64 rfl rfl) ?_)
            | (refine wpList_valG rfl (.bool true) (exec_eqlU (.tmp 43) (.tmp 44) _ _ rfl o h3 true T2.out .u64 rfl rfl) ?_)
            | (refine wpList_valG rfl (wv p) (W.xload m (Gr.refl _) (.tmp 11) rfl 0 rfl rfl) ?_)
            | (refine wpList_valG rfl (wv low) (W.xload m (Gr.refl _) (.tmp 8) rfl 1 rfl rfl) ?_)
            | (go_at_call 16; refine (HCmp.out _).mono ?_; rintro e w49 ⟨rfl, b49⟩; replace m := m.gr b49; clear b49)
            | (refine wpList_skipG rfl ?_)
            | (refine wpList_val rfl (.int .u64 (y : Int)) (exec_subU (.tmp 53) (.const (.int .u64 1)) _ _ rfl x 1 y Y1.out.1 Y1.out.2 rfl rfl) ?_)
            | (refine W.load m rfl (.tmp 11) rfl 0 rfl rfl ?_)
            | (refine W.load m rfl (.tmp 5) rfl 3 rfl rfl ?_)
            | (go_at_call 13; refine (HS.out _).mono ?_; rintro e wx58 ⟨rfl, b58⟩; replace m := m.gr b58; clear b58)
            | (refine W.store m rfl (.tmp 11) (.tmp 59) rfl rfl 0 p1 rfl (w4_length _) rfl rfl ?_; clear m; intro wx103 m)
            | (refine wpList_val rfl (.int .u64 (o1 : Int)) (exec_subU (.tmp 61) (.tmp 62) _ _ rfl o bo o1 Y2.out.1 Y2.out.2 rfl rfl) ?_)); try simp only [Act.put, List.setIfInBounds_toArray, List.set_cons_succ, List.set_cons_zero])
          go_roundw
          case rel => exact ⟨y, rfl, by rw [Y3.out.1], Y3.out.2.1, Y3.out.2.2.1, by rw [Y3.out.2.2.2.1]; exact m⟩
          case measure => have := Y3.out.2.2.2.2; simp [intOf]; omega
        · obtain ⟨cc, hcc, hcl⟩ : ∃ cc : Int, cmpN p low = cc ∧ ¬ (0 < cc) := ⟨_, rfl, by unfold cmpN; split; omega; rw [if_pos (by omega)]; omega⟩
          have HCmp : Hid (∀ w, Calls Tryd.prog 16 #[wv p, wv low] w fun e w' => e = .returned (.int .i64 cc) ∧ Below w.heap.size w w') := fun w => by
            have := hcmp w; rw [hcc] at this; exact this
          obtain ⟨R, bz, YQ, HE⟩ := stop (fun h => by rcases hov.2 h with h | h; exact c1 h; exact c3 h.2)
          clear go stop hov c1 c2 c3 hcmp hcc
          go_wp2_with ((first
            | (refine wpList_val rfl (.bool false) (exec_gtrU (.tmp 39) (.tmp 40) _ _ rfl o h3 false T1.out .u64 rfl rfl) ?_)
            | (refine wpList_valG rfl (.bool true) (exec_eqlU (.tmp 43) (.tmp 44) _ _ rfl o h3 true T2.out .u64 rfl rfl) ?_)
            | (refine wpList_valG rfl (wv p) (W.xload m (Gr.refl _) (.tmp 11) rfl 0 rfl rfl) ?_)
            | (refine wpList_valG rfl (wv low) (W.xload m (Gr.refl _) (.tmp 8) rfl 1 rfl rfl) ?_)
            | (go_at_call 16; refine (HCmp.out _).mono ?_; rintro e w49 ⟨rfl, b49⟩; replace m := m.gr b49; clear b49)
            | (refine wpList_skipG rfl ?_)
            | (refine W.load m rfl (.tmp 8) rfl 1 rfl rfl ?_)
            | (refine W.load m rfl (.tmp 11) rfl 0 rfl rfl ?_)
            | (go_at_call 13; refine (HE.out _).mono ?_; rintro e wx67 ⟨rfl, b67⟩; replace m := m.gr b67; clear b67)
            | (refine W.alloc m rfl rfl 14 rfl ?_; clear m; intro g14 wx14 m)
            | (refine W.store m rfl (.tmp 14) (.tmp 68) rfl rfl 0 R rfl (w4_length _) rfl rfl ?_; clear m; intro wx104 m)); try simp only [Act.put, List.setIfInBounds_toArray, List.set_cons_succ, List.set_cons_zero])
          have m' : Mem w wx104 [⟨g14, 24, c64 (w4 R)⟩, ⟨g11, 24, c64 (w4 p)⟩, ⟨g8, 24, c64 (w4 low)⟩, ⟨g7, 24, c64 (w4 0)⟩, ⟨g5, 24, c64 (w4 d)⟩, ⟨g3, 24, c64 (w4 h)⟩] := m
          clear m
          have F := M_fit 24 m' (fun | 3 => some (c64 (w4 R)) | _ => none) (fun _ _ _ _ => False) (fun _ _ _ _ _ h => h)
          refine Mild3.wp_region F (by kernel_rfl) (by kernel_rfl) (Below.drewN' _ _ 1) ?_
          iterate 1 (refine Mild3.step_quiet F rfl rfl rfl (by kernel_rfl) rfl (fun w0 hC hF K hK => ?_); clear hF; go_big_quiet_op; refine hK _ ?_; clear hK K hC; clear w0)
          refine Mild3.step_known F rfl rfl (by kernel_rfl) rfl (wv R) (fun w0 hC _ => W.xload m' hC (.tmp 14) rfl 0 rfl rfl) ?_
          simp only [Act.put, List.setIfInBounds_toArray, List.set_cons_succ, List.set_cons_zero]
          refine Mild3.step_pure F rfl rfl rfl (.int .u64 (x : Nat)) (fun w0 => exec_move (.tmp 70) (.inr rfl) _ rfl) ?_
          simp only [Act.put, List.setIfInBounds_toArray, List.set_cons_succ, List.set_cons_zero]
          refine Mild3.step_note rfl rfl rfl (fun w => Arr 24 w g7 (c64 (w4 R))) (m'.note 3 rfl rfl) (fun w0 hC hF => W.xstore m' hC (.tmp 7) (.tmp 71) rfl 3 R rfl (w4_length _) rfl rfl rfl) ?_
          intro w99 hw hf
          have m9 : Mem w w99 [⟨g14, 24, c64 (w4 R)⟩, ⟨g11, 24, c64 (w4 p)⟩, ⟨g8, 24, c64 (w4 low)⟩, ⟨g7, 24, c64 (w4 R)⟩, ⟨g5, 24, c64 (w4 d)⟩, ⟨g3, 24, c64 (w4 h)⟩] := m'.done hw rfl ⟨m'.still hw 0 rfl rfl, m'.still hw 1 rfl rfl, m'.still hw 2 rfl rfl, (hf none).2 rfl, m'.still hw 4 rfl rfl, m'.still hw 5 rfl rfl, trivial⟩
          clear hf hw F
          go_wp2
          refine bodyPost_ret (results_tmp_arr Tryd.aw Tryd.results52 _ w99 g7 (c64 (w4 R)) (wl R) rfl (m9.get 3 rfl)) rfl ⟨by rw [YQ.out.1, YQ.out.2]; rfl, m9.below⟩
      · have T2 : Hid (decide (o = h3) = false) := decide_eq_false c2
        obtain ⟨R, bz, YQ, HE⟩ := stop (fun h => by rcases hov.2 h with h | h; exact c1 h; exact c2 h.1)
        clear go stop hov c1 c2 hcmp
        go_wp2_with ((first
          | (refine wpList_val rfl (.bool false) (exec_gtrU (.tmp 39) (.tmp 40) _ _ rfl o h3 false T1.out .u64 rfl rfl) ?_)
          | (refine wpList_valG rfl (.bool false) (exec_eqlU (.tmp 43) (.tmp 44) _ _ rfl o h3 false T2.out .u64 rfl rfl) ?_)
          | (refine wpList_skipG rfl ?_)
          | (refine W.load m rfl (.tmp 8) rfl 1 rfl rfl ?_)
          | (refine W.load m rfl (.tmp 11) rfl 0 rfl rfl ?_)
          | (go_at_call 13; refine (HE.out _).mono ?_; rintro e wx67 ⟨rfl, b67⟩; replace m := m.gr b67; clear b67)
          | (refine W.alloc m rfl rfl 14 rfl ?_; clear m; intro g14 wx14 m)
          | (refine W.store m rfl (.tmp 14) (.tmp 68) rfl rfl 0 R rfl (w4_length _) rfl rfl ?_; clear m; intro wx105 m)); try simp only [Act.put, List.setIfInBounds_toArray, List.set_cons_succ, List.set_cons_zero])
        have m' : Mem w wx105 [⟨g14, 24, c64 (w4 R)⟩, ⟨g11, 24, c64 (w4 p)⟩, ⟨g8, 24, c64 (w4 low)⟩, ⟨g7, 24, c64 (w4 0)⟩, ⟨g5, 24, c64 (w4 d)⟩, ⟨g3, 24, c64 (w4 h)⟩] := m
        clear m
        have F := M_fit 24 m' (fun | 3 => some (c64 (w4 R)) | _ => none) (fun _ _ _ _ => False) (fun _ _ _ _ _ h => h)
        refine Mild3.wp_region F (by kernel_rfl) (by kernel_rfl) (Below.drewN' _ _ 1) ?_
        iterate 1 (refine Mild3.step_quiet F rfl rfl rfl (by kernel_rfl) rfl (fun w0 hC hF K hK => ?_); clear hF; go_big_quiet_op; refine hK _ ?_; clear hK K hC; clear w0)
        refine Mild3.step_known F rfl rfl (by kernel_rfl) rfl (wv R) (fun w0 hC _ => W.xload m' hC (.tmp 14) rfl 0 rfl rfl) ?_
        simp only [Act.put, List.setIfInBounds_toArray, List.set_cons_succ, List.set_cons_zero]
        refine Mild3.step_pure F rfl rfl rfl (.int .u64 (x : Nat)) (fun w0 => exec_move (.tmp 70) (.inr rfl) _ rfl) ?_
        simp only [Act.put, List.setIfInBounds_toArray, List.set_cons_succ, List.set_cons_zero]
        refine Mild3.step_note rfl rfl rfl (fun w => Arr 24 w g7 (c64 (w4 R))) (m'.note 3 rfl rfl) (fun w0 hC hF => W.xstore m' hC (.tmp 7) (.tmp 71) rfl 3 R rfl (w4_length _) rfl rfl rfl) ?_
        intro w99 hw hf
        have m9 : Mem w w99 [⟨g14, 24, c64 (w4 R)⟩, ⟨g11, 24, c64 (w4 p)⟩, ⟨g8, 24, c64 (w4 low)⟩, ⟨g7, 24, c64 (w4 R)⟩, ⟨g5, 24, c64 (w4 d)⟩, ⟨g3, 24, c64 (w4 h)⟩] := m'.done hw rfl ⟨m'.still hw 0 rfl rfl, m'.still hw 1 rfl rfl, m'.still hw 2 rfl rfl, (hf none).2 rfl, m'.still hw 4 rfl rfl, m'.still hw 5 rfl rfl, trivial⟩
        clear hf hw F
        go_wp2
        refine bodyPost_ret (results_tmp_arr Tryd.aw Tryd.results52 _ w99 g7 (c64 (w4 R)) (wl R) rfl (m9.get 3 rfl)) rfl ⟨by rw [YQ.out.1, YQ.out.2]; rfl, m9.below⟩
end Go.Proofs.YtijghhecclaafaaDoor
