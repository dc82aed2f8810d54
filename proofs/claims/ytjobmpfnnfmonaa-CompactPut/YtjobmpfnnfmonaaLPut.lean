/-
  What the law CompactPut comes to: true, and nothing that was there has turned; for whatever bytes and number.
-/
import Derived.Test.YtjobmpfnnfmonaaW5
namespace Go.Proofs.Ytjobmpfnnfmonaa
open Go.RowKit

/-- What the callees of the law's last statement tell. -/
def putWord (l : List UInt8) (n : Nat) (f : FuncId) (args : Array Value) (v : Value) (w : World) : Prop :=
  (f = 10 ∧ v = .bool true) ∨
  (f = 15 ∧ args.getD 2 undef = .int .i64 4 ∧ Rs w v (l ++ le (n % 4294967296) 4)) ∨
  (f = 15 ∧ args.getD 2 undef = .int .i64 8 ∧ Rs w v (l ++ le n 8)) ∨
  (f = 16 ∧ Rs w v (l ++ sizeL n))

theorem putFit (w0 : World) (l : List UInt8) (n : Nat) : Mild.Fit Gr (fun w => Gr w0 w) (putWord l n) where
  refl := Gr.refl
  trans := fun _ _ _ => Gr.trans
  inC := fun _ _ => Gr.trans
  keep := by
    rintro f args v w w' (h | ⟨h1, h2, h3⟩ | ⟨h1, h2, h3⟩ | ⟨h1, h3⟩) hg
    · exact .inl h
    · exact .inr (.inl ⟨h1, h2, h3.gr hg⟩)
    · exact .inr (.inr (.inl ⟨h1, h2, h3.gr hg⟩))
    · exact .inr (.inr (.inr ⟨h1, h3.gr hg⟩))

set_option maxRecDepth 100000 in
set_option maxHeartbeats 1000000 in
theorem put_small (w : World) (B : Nat) (v : Value) (l : List UInt8) (n : Nat) (hn : n < 18446744073709551616) (h : Rd B w v l) (hl : l.length ≤ 300) :
    Calls Try.prog 3 #[v, .int .u64 n] w fun e w' => e = .returned (.bool true) ∧ Below w.heap.size w w' := by
  have Hn : Hid (n < 18446744073709551616) := hn
  have hrd : Hid (Rd B w v l) := h
  obtain ⟨ao, cap, rfl⟩ := h.len
  clear h hn
  go_enter Try.func3, Try.ntmps3
  go_wp2_with fail
  refine (own_any _ _ _ _ hrd.out (by omega)).mono ?_
  rintro e w1 ⟨v1, rfl, ho1, hb1⟩
  go_wp2_with fail
  refine (put32_any _ _ _ _ _ (n % 4294967296) (by omega) ho1.rd (by omega)).mono ?_
  rintro e w2 ⟨v2, rfl, ho2, hb2⟩
  go_wp2_with fail
  refine (put64_any _ _ _ _ n (ho1.keep hb2).rd (by omega)).mono ?_
  rintro e w3 ⟨v3, rfl, ho3, hb3⟩
  go_wp2_with fail
  refine (putSize_any _ _ _ _ n ((ho1.keep hb2).keep hb3).rd (by omega)).mono ?_
  rintro e w4 ⟨v4, rfl, ho4, hb4⟩
  have H : Hid (Gr w w4 ∧ Rs w4 v1 l ∧ Rs w4 v2 (l ++ le (n % 4294967296) 4) ∧ Rs w4 v3 (l ++ le n 8) ∧ Rs w4 v4 (l ++ sizeL n)) :=
    ⟨((Gr.trans hb1 hb2).trans hb3).trans hb4, ((ho1.keep hb2).keep hb3).rd.rs.gr hb4, ((ho2.keep hb3).rd.rs).gr hb4, ho3.rd.rs.gr hb4, ho4.rd⟩
  clear ho1 hb1 ho2 hb2 ho3 hb3 ho4 hb4
  go_wp2_with fail
  obtain ⟨hg, h1, h2, h3, h4⟩ := H.out
  have h0 : Rs w4 (.slice ao l.length cap) l := hrd.out.rs.gr hg
  have F := putFit w4 l n
  refine Mild.wp_region F (by kernel_rfl) (by kernel_rfl) (Below.drewN' _ _ 1) ?_
  refine Mild.step_call rfl 10 #[] ?run (fun v _ => v = .bool true) (fun v w w' _ h => h) (fun w _ _ => (alive_any w).mono fun e w' ⟨he, hb⟩ => ⟨_, he, hb, .inl ⟨rfl, rfl⟩⟩) ?hk ?_
  case run => intro w; go_simp
  case hk =>
    rintro v w' _ (⟨_, hv⟩ | ⟨hf, _⟩ | ⟨hf, _⟩ | ⟨hf, _⟩)
    · exact hv
    · exact absurd hf (by decide)
    · exact absurd hf (by decide)
    · exact absurd hf (by decide)
  intro v hv
  obtain ⟨_, _, rfl⟩ := hv (by simp)
  simp only [Act.put, List.setIfInBounds_toArray, List.set_cons_succ, List.set_cons_zero]
  have c0 := fun w0 k (hC : Gr w4 w0) => run_conv_rd Try.bt 9 (by kernel_rfl) (w0.drewN k) _ (.slice ao l.length cap) _ ((h0.gr hC).drewN k)
  have c1 := fun w0 k (hC : Gr w4 w0) => run_conv_rd Try.bt 9 (by kernel_rfl) (w0.drewN k) _ v1 _ ((h1.gr hC).drewN k)
  have c2 := fun w0 k (hC : Gr w4 w0) => run_conv_rd Try.bt 9 (by kernel_rfl) (w0.drewN k) _ v2 _ ((h2.gr hC).drewN k)
  have c3 := fun w0 k (hC : Gr w4 w0) => run_conv_rd Try.bt 9 (by kernel_rfl) (w0.drewN k) _ v3 _ ((h3.gr hC).drewN k)
  have c4 := fun w0 k (hC : Gr w4 w0) => run_conv_rd Try.bt 9 (by kernel_rfl) (w0.drewN k) _ v4 _ ((h4.gr hC).drewN k)
  repeat (refine Mild.step_quiet F rfl rfl rfl (fun w0 hC hF K hK => ?_); clear hF; go_big_quiet_op; refine hK _ ?_; clear hK K hC; clear w0)
  refine Mild.step_call rfl 15 #[.slice ao l.length cap, .int .u64 ((n : Int) % 4294967296), .int .i64 4] ?run1 (fun v w => Rs w v (l ++ le (n % 4294967296) 4)) (fun v w w' hg h => h.gr hg) (fun w hC _ => (refPut w _ _ l _ (n % 4294967296) (by omega) (by omega) 4 (by omega) (h0.gr hC) (by omega)).mono fun e w' ⟨v', he, ho, hb⟩ => ⟨v', he, hb, .inr (.inl ⟨rfl, rfl, ho.rd⟩)⟩) ?hk1 ?_
  case run1 => intro w; go_simp
  case hk1 =>
    rintro v w' _ (⟨hf, _⟩ | ⟨hf, ha, hv⟩ | ⟨hf, ha, hv⟩ | ⟨hf, hv⟩)
    · exact absurd hf (by decide)
    · exact hv
    · exact absurd ha (by simp)
    · exact absurd hf (by decide)
  intro r1 _
  simp only [Act.put, List.setIfInBounds_toArray, List.set_cons_succ, List.set_cons_zero]
  repeat (refine Mild.step_quiet F rfl rfl rfl (fun w0 hC hF K hK => ?_); clear hF; go_big_quiet_op; refine hK _ ?_; clear hK K hC; clear w0)
  refine Mild.step_quiet F rfl rfl rfl (fun w0 hC hF K hK => ?_)
  have hcv := fun k => run_conv_rd Try.bt 9 (by kernel_rfl) (w0.drewN k) _ r1 (l ++ le (n % 4294967296) 4) (((hF 32 (by simp [Oper.looksAt, Op.operands])).2 rfl).drewN k)
  clear hC hF
  go_big_quiet_op
  refine hK _ ?_
  clear hK K hcv
  clear w0
  repeat (refine Mild.step_quiet F rfl rfl rfl (fun w0 hC hF K hK => ?_); clear hF; go_big_quiet_op; refine hK _ ?_; clear hK K hC; clear w0)
  refine Mild.step_call rfl 15 #[.slice ao l.length cap, .int .u64 (n : Int), .int .i64 8] ?run2 (fun v w => Rs w v (l ++ le n 8)) (fun v w w' hg h => h.gr hg) (fun w hC _ => (refPut w _ _ l _ n rfl Hn.out 8 (by omega) (h0.gr hC) (by omega)).mono fun e w' ⟨v', he, ho, hb⟩ => ⟨v', he, hb, .inr (.inr (.inl ⟨rfl, rfl, ho.rd⟩))⟩) ?hk2 ?_
  case run2 => intro w; go_simp
  case hk2 =>
    rintro v w' _ (⟨hf, _⟩ | ⟨hf, ha, hv⟩ | ⟨hf, ha, hv⟩ | ⟨hf, hv⟩)
    · exact absurd hf (by decide)
    · exact absurd ha (by simp)
    · exact hv
    · exact absurd hf (by decide)
  intro r2 _
  simp only [Act.put, List.setIfInBounds_toArray, List.set_cons_succ, List.set_cons_zero]
  repeat (refine Mild.step_quiet F rfl rfl rfl (fun w0 hC hF K hK => ?_); clear hF; go_big_quiet_op; refine hK _ ?_; clear hK K hC; clear w0)
  refine Mild.step_quiet F rfl rfl rfl (fun w0 hC hF K hK => ?_)
  have hcv := fun k => run_conv_rd Try.bt 9 (by kernel_rfl) (w0.drewN k) _ r2 (l ++ le n 8) (((hF 41 (by simp [Oper.looksAt, Op.operands])).2 rfl).drewN k)
  clear hC hF
  go_big_quiet_op
  refine hK _ ?_
  clear hK K hcv
  clear w0
  repeat (refine Mild.step_quiet F rfl rfl rfl (fun w0 hC hF K hK => ?_); clear hF; go_big_quiet_op; refine hK _ ?_; clear hK K hC; clear w0)
  refine Mild.step_call rfl 16 #[.slice ao l.length cap, .int .u64 (n : Int)] ?run3 (fun v w => Rs w v (l ++ sizeL n)) (fun v w w' hg h => h.gr hg) (fun w hC _ => (refPutSize w _ _ l n Hn.out (h0.gr hC) (by omega)).mono fun e w' ⟨v', he, ho, hb⟩ => ⟨v', he, hb, .inr (.inr (.inr ⟨rfl, ho.rd⟩))⟩) ?hk3 ?_
  case run3 => intro w; go_simp
  case hk3 =>
    rintro v w' _ (⟨hf, _⟩ | ⟨hf, ha, hv⟩ | ⟨hf, ha, hv⟩ | ⟨hf, hv⟩)
    · exact absurd hf (by decide)
    · exact absurd hf (by decide)
    · exact absurd hf (by decide)
    · exact hv
  intro r3 _
  simp only [Act.put, List.setIfInBounds_toArray, List.set_cons_succ, List.set_cons_zero]
  repeat (refine Mild.step_quiet F rfl rfl rfl (fun w0 hC hF K hK => ?_); clear hF; go_big_quiet_op; refine hK _ ?_; clear hK K hC; clear w0)
  refine Mild.step_quiet F rfl rfl rfl (fun w0 hC hF K hK => ?_)
  have hcv := fun k => run_conv_rd Try.bt 9 (by kernel_rfl) (w0.drewN k) _ r3 (l ++ sizeL n) (((hF 50 (by simp [Oper.looksAt, Op.operands])).2 rfl).drewN k)
  clear hC hF
  go_big_quiet_op
  refine hK _ ?_
  clear hK K hcv
  clear w0
  repeat (refine Mild.step_quiet F rfl rfl rfl (fun w0 hC hF K hK => ?_); clear hF; go_big_quiet_op; refine hK _ ?_; clear hK K hC; clear w0)
  intro w5 hg5 _
  have hfin : Hid (Below w.heap.size w w5) := Gr.trans hg hg5
  clear c0 c1 c2 c3 c4 h0 h1 h2 h3 h4 hg hg5 H F
  go_wp2
  go_ret
  exact ⟨rfl, hfin.out⟩

set_option maxHeartbeats 400000 in
theorem put_large (w : World) (ao : Option Addr) (len cap : Nat) (z : Int) (hl : 300 < len) :
    Calls Try.prog 3 #[.slice ao len cap, .int .u64 z] w fun e w' => e = .returned (.bool true) ∧ Below w.heap.size w w' := by
  go_enter Try.func3, Try.ntmps3
  go_wp2_with (go_at_call 10; refine (alive_any _).mono ?_; rintro e w1 ⟨rfl, hb1⟩)
  go_ret
  exact ⟨rfl, hb1⟩
end Go.Proofs.Ytjobmpfnnfmonaa
