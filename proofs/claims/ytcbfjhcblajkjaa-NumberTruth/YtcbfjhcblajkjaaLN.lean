/-
  What the laws NumberEncode and NumberOnly come to: true, and nothing that was there has turned; for whatever number, truth and bytes.
-/
import Derived.Test.YtcbfjhcblajkjaaN6
namespace Go.Proofs.Ytcbfjhcblajkjaa
open Go.RowKit

/-- What the callees of NumberEncode tell. -/
def encWords (E V : List UInt8) (f : FuncId) (_args : Array Value) (v : Value) (w : World) : Prop :=
  (f = 8 ∧ v = .bool true) ∨
  ((f = 9 ∨ f = 10) ∧ Rs w v E) ∨
  ((f = 11 ∨ f = 12) ∧ Rs w v V)
theorem encsFit (w0 : World) (E V : List UInt8) : Mild.Fit Gr (fun w => Gr w0 w) (encWords E V) where
  refl := Gr.refl
  trans := fun _ _ _ => Gr.trans
  inC := fun _ _ => Gr.trans
  keep := by
    rintro f args v w w' (h | ⟨h1, h2⟩ | ⟨h1, h2⟩) hg
    · exact .inl h
    · exact .inr (.inl ⟨h1, h2.gr hg⟩)
    · exact .inr (.inr ⟨h1, h2.gr hg⟩)

set_option maxRecDepth 100000 in
set_option maxHeartbeats 1000000 in
theorem nencode_any (w : World) (n : Int) (b : Bool) (h1 : -9223372036854775808 ≤ n) (h2 : n ≤ 9223372036854775807) :
    Calls Try.prog 3 #[.int .i64 n, .bool b] w fun e w' => e = .returned (.bool true) ∧ Below w.heap.size w w' := by
  have HE : Hid (∀ w, Calls Try.prog 9 #[.int .i64 n] w fun e w' => ∃ v', e = .returned v' ∧ Own 5 w.heap.size w' v' (encN n) ∧ Below w.heap.size w w') := fun w => encode_any w n h1 h2
  have HR : Hid (∀ w, Calls Try.prog 10 #[.int .i64 n] w fun e w' => ∃ v', e = .returned v' ∧ Own 5 w.heap.size w' v' (encN n) ∧ Below w.heap.size w w') := fun w => rencode_any w n h1 h2
  clear h1 h2
  generalize encN n = E at HE HR
  go_enter Try.func3, Try.ntmps3
  go_wp2_with fail
  have F := encsFit w E (flg b)
  refine Mild.wp_region F (by kernel_rfl) (by kernel_rfl) (Below.drewN' _ _ 1) ?_
  refine Mild.step_call rfl 8 #[] ?run (fun v _ => v = .bool true) (fun v w w' _ h => h) (fun w _ _ => (alive_any w).mono fun e w' ⟨he, hb⟩ => ⟨_, he, hb, .inl ⟨rfl, rfl⟩⟩) ?hk ?_
  case run => intro w; go_simp
  case hk =>
    rintro v w' _ (⟨_, hv⟩ | ⟨hf | hf, _⟩ | ⟨hf | hf, _⟩)
    · exact hv
    all_goals exact absurd hf (by decide)
  intro v hv
  obtain ⟨_, _, rfl⟩ := hv (by simp)
  simp only [Act.put, List.setIfInBounds_toArray, List.set_cons_succ, List.set_cons_zero]
  repeat (refine Mild.step_quiet F rfl rfl rfl (fun w0 hC hF K hK => ?_); clear hF; go_big_quiet_op; refine hK _ ?_; clear hK K hC; clear w0)
  refine Mild.step_call rfl 9 #[.int .i64 n] ?run1 (fun v w => Rs w v E) (fun v w w' hg h => h.gr hg) (fun w hC _ => (HE.out w).mono fun e w' ⟨v', he, ho, hb⟩ => ⟨v', he, hb, .inr (.inl ⟨.inl rfl, ho.rd⟩)⟩) ?hk1 ?_
  case run1 => intro w; go_simp
  case hk1 =>
    rintro v w' _ (⟨hf, _⟩ | ⟨_, hv⟩ | ⟨hf | hf, _⟩)
    · exact absurd hf (by decide)
    · exact hv
    all_goals exact absurd hf (by decide)
  intro r1 _
  simp only [Act.put, List.setIfInBounds_toArray, List.set_cons_succ, List.set_cons_zero]
  refine Mild.step_quiet F rfl rfl rfl (fun w0 hC hF K hK => ?_)
  have hcv := fun k => run_conv_rd Try.bt 9 (by kernel_rfl) (w0.drewN k) _ r1 E (((hF 8 (by simp [Oper.looksAt, Op.operands])).2 rfl).drewN k)
  clear hC hF
  go_big_quiet_op
  refine hK _ ?_
  clear hK K hcv
  clear w0
  repeat (refine Mild.step_quiet F rfl rfl rfl (fun w0 hC hF K hK => ?_); clear hF; go_big_quiet_op; refine hK _ ?_; clear hK K hC; clear w0)
  refine Mild.step_call rfl 10 #[.int .i64 n] ?run2 (fun v w => Rs w v E) (fun v w w' hg h => h.gr hg) (fun w hC _ => (HR.out w).mono fun e w' ⟨v', he, ho, hb⟩ => ⟨v', he, hb, .inr (.inl ⟨.inr rfl, ho.rd⟩)⟩) ?hk2 ?_
  case run2 => intro w; go_simp
  case hk2 =>
    rintro v w' _ (⟨hf, _⟩ | ⟨_, hv⟩ | ⟨hf | hf, _⟩)
    · exact absurd hf (by decide)
    · exact hv
    all_goals exact absurd hf (by decide)
  intro r2 _
  simp only [Act.put, List.setIfInBounds_toArray, List.set_cons_succ, List.set_cons_zero]
  refine Mild.step_quiet F rfl rfl rfl (fun w0 hC hF K hK => ?_)
  have hcv := fun k => run_conv_rd Try.bt 9 (by kernel_rfl) (w0.drewN k) _ r2 E (((hF 11 (by simp [Oper.looksAt, Op.operands])).2 rfl).drewN k)
  clear hC hF
  go_big_quiet_op
  refine hK _ ?_
  clear hK K hcv
  clear w0
  repeat (refine Mild.step_quiet F rfl rfl rfl (fun w0 hC hF K hK => ?_); clear hF; go_big_quiet_op; refine hK _ ?_; clear hK K hC; clear w0)
  refine Mild.step_call rfl 11 #[.bool b] ?run3 (fun v w => Rs w v (flg b)) (fun v w w' hg h => h.gr hg) (fun w hC _ => (flag_any w b).mono fun e w' ⟨v', he, ho, hb⟩ => ⟨v', he, hb, .inr (.inr ⟨.inl rfl, ho⟩)⟩) ?hk3 ?_
  case run3 => intro w; go_simp
  case hk3 =>
    rintro v w' _ (⟨hf, _⟩ | ⟨hf | hf, _⟩ | ⟨_, hv⟩)
    · exact absurd hf (by decide)
    · exact absurd hf (by decide)
    · exact absurd hf (by decide)
    · exact hv
  intro r3 _
  simp only [Act.put, List.setIfInBounds_toArray, List.set_cons_succ, List.set_cons_zero]
  refine Mild.step_quiet F rfl rfl rfl (fun w0 hC hF K hK => ?_)
  have hcv := fun k => run_conv_rd Try.bt 9 (by kernel_rfl) (w0.drewN k) _ r3 (flg b) (((hF 17 (by simp [Oper.looksAt, Op.operands])).2 rfl).drewN k)
  clear hC hF
  go_big_quiet_op
  refine hK _ ?_
  clear hK K hcv
  clear w0
  repeat (refine Mild.step_quiet F rfl rfl rfl (fun w0 hC hF K hK => ?_); clear hF; go_big_quiet_op; refine hK _ ?_; clear hK K hC; clear w0)
  refine Mild.step_call rfl 12 #[.bool b] ?run4 (fun v w => Rs w v (flg b)) (fun v w w' hg h => h.gr hg) (fun w hC _ => (rflag_any w b).mono fun e w' ⟨v', he, ho, hb⟩ => ⟨v', he, hb, .inr (.inr ⟨.inr rfl, ho⟩)⟩) ?hk4 ?_
  case run4 => intro w; go_simp
  case hk4 =>
    rintro v w' _ (⟨hf, _⟩ | ⟨hf | hf, _⟩ | ⟨_, hv⟩)
    · exact absurd hf (by decide)
    · exact absurd hf (by decide)
    · exact absurd hf (by decide)
    · exact hv
  intro r4 _
  simp only [Act.put, List.setIfInBounds_toArray, List.set_cons_succ, List.set_cons_zero]
  refine Mild.step_quiet F rfl rfl rfl (fun w0 hC hF K hK => ?_)
  have hcv := fun k => run_conv_rd Try.bt 9 (by kernel_rfl) (w0.drewN k) _ r4 (flg b) (((hF 20 (by simp [Oper.looksAt, Op.operands])).2 rfl).drewN k)
  clear hC hF
  go_big_quiet_op
  refine hK _ ?_
  clear hK K hcv
  clear w0
  repeat (refine Mild.step_quiet F rfl rfl rfl (fun w0 hC hF K hK => ?_); clear hF; go_big_quiet_op; refine hK _ ?_; clear hK K hC; clear w0)
  intro w5 hg5 _
  have hfin : Hid (Below w.heap.size w w5) := hg5
  clear hg5 F
  go_wp2
  go_ret
  exact ⟨rfl, hfin.out⟩

/-- What the callees of NumberOnly's last statement tell. -/
def onlyWords (l : List UInt8) (f : FuncId) (_args : Array Value) (v : Value) (w : World) : Prop :=
  (f = 8 ∧ v = .bool true) ∨ (f = 9 ∧ Rs w v l)
theorem onlyFit (w0 : World) (l : List UInt8) : Mild.Fit Gr (fun w => Gr w0 w) (onlyWords l) where
  refl := Gr.refl
  trans := fun _ _ _ => Gr.trans
  inC := fun _ _ => Gr.trans
  keep := by
    rintro f args v w w' (h | ⟨h1, h2⟩) hg
    · exact .inl h
    · exact .inr ⟨h1, h2.gr hg⟩

theorem only_facts (l : List UInt8) : (okN l 4 = true ∧ decE l 4 = 0 ∧ encN (decN l 4) = l ∧ -2147483647 ≤ decN l 4 ∧ decN l 4 ≤ 2147483647 ∧ l.length ≤ 4) ∨ (decE l 4 = 15 ∧ decN l 4 = 0) := by
  cases h : okN l 4 with
  | false => right; unfold decE decN; rw [h]; exact ⟨rfl, rfl⟩
  | true =>
    left
    have h' := h
    unfold okN at h'
    simp only [Bool.and_eq_true, decide_eq_true_eq] at h'
    have hb := rdN_lt4 l (by omega)
    have e : decN l 4 = rdN l := by unfold decN; rw [h]; rfl
    have e2 : decE l 4 = 0 := by unfold decE; rw [h]; rfl
    rw [e]
    exact ⟨rfl, e2, h'.2, by omega, by omega, by omega⟩

set_option maxRecDepth 100000 in
set_option maxHeartbeats 1000000 in
theorem only_small (w : World) (v : Value) (l : List UInt8) (h : Rs w v l) (hl : l.length ≤ 200) :
    Calls Try.prog 7 #[v] w fun e w' => e = .returned (.bool true) ∧ Below w.heap.size w w' := by
  have hrd : Hid (Rs w v l) := h
  obtain ⟨ao, cap, rfl⟩ := Rd.len h
  clear h
  rcases only_facts l with ⟨_, he, hen, hlo, hhi, h4⟩ | ⟨he, hn⟩
  · obtain ⟨n, hn⟩ : ∃ n, decN l 4 = n := ⟨_, rfl⟩
    rw [hn] at hen hlo hhi
    have HN : Hid (decN l 4 = n) := hn
    have HX : Hid (decE l 4 = 0) := he
    have HE : Hid (∀ w, Calls Try.prog 9 #[.int .i64 n] w fun e w' => ∃ v', e = .returned v' ∧ Own 5 w.heap.size w' v' l ∧ Below w.heap.size w w') := fun w => encode_r w n (by omega) (by omega) l hen
    have d1 : decide (n ≥ -2147483647) = true := by simp; omega
    have d2 : decide (n ≤ 2147483647) = true := by simp; omega
    have d3 : decide ((l.length : Int) ≤ 4) = true := by simp; omega
    clear hn he hen hlo hhi
    go_enter Try.func7, Try.ntmps7
    go_wp2_with fail
    refine (decode_r _ _ _ l 4 hrd.out (by omega) _ _ HN.out HX.out).mono ?_
    rintro e w1 ⟨rfl, hb1⟩
    have h0 : Rs w1 (.slice ao l.length cap) l := hrd.out.gr hb1
    have Hb1 : Hid (Gr w w1) := hb1
    clear hb1 h4
    go_wp2_with fail
    have F := onlyFit w1 l
    refine Mild.wp_region F (by kernel_rfl) (by kernel_rfl) (Below.drewN' _ _ 1) ?_
    refine Mild.step_call rfl 8 #[] ?run (fun v _ => v = .bool true) (fun v w w' _ h => h) (fun w _ _ => (alive_any w).mono fun e w' ⟨he, hb⟩ => ⟨_, he, hb, .inl ⟨rfl, rfl⟩⟩) ?hk ?_
    case run => intro w; go_simp
    case hk =>
      rintro v w' _ (⟨_, hv⟩ | ⟨hf, _⟩)
      · exact hv
      · exact absurd hf (by decide)
    intro v hv
    obtain ⟨_, _, rfl⟩ := hv (by simp)
    simp only [Act.put, List.setIfInBounds_toArray, List.set_cons_succ, List.set_cons_zero]
    have c0 := fun w0 k (hC : Gr w1 w0) => run_conv_rd Try.bt 9 (by kernel_rfl) (w0.drewN k) _ (.slice ao l.length cap) _ ((h0.gr hC).drewN k)
    repeat (refine Mild.step_quiet F rfl rfl rfl (fun w0 hC hF K hK => ?_); clear hF; go_big_quiet_op; refine hK _ ?_; clear hK K hC; clear w0)
    refine Mild.step_call rfl 9 #[.int .i64 n] ?run1 (fun v w => Rs w v l) (fun v w w' hg h => h.gr hg) (fun w hC _ => (HE.out w).mono fun e w' ⟨v', he, ho, hb⟩ => ⟨v', he, hb, .inr ⟨rfl, ho.rd⟩⟩) ?hk1 ?_
    case run1 => intro w; go_simp
    case hk1 =>
      rintro v w' _ (⟨hf, _⟩ | ⟨_, hv⟩)
      · exact absurd hf (by decide)
      · exact hv
    intro r1 _
    simp only [Act.put, List.setIfInBounds_toArray, List.set_cons_succ, List.set_cons_zero]
    refine Mild.step_quiet F rfl rfl rfl (fun w0 hC hF K hK => ?_)
    have hcv := fun k => run_conv_rd Try.bt 9 (by kernel_rfl) (w0.drewN k) _ r1 l (((hF 28 (by simp [Oper.looksAt, Op.operands])).2 rfl).drewN k)
    clear hC hF
    go_big_quiet_op
    refine hK _ ?_
    clear hK K hcv
    clear w0
    repeat (refine Mild.step_quiet F rfl rfl rfl (fun w0 hC hF K hK => ?_); clear hF; go_big_quiet_op; refine hK _ ?_; clear hK K hC; clear w0)
    intro w5 hg5 _
    have hfin : Hid (Below w.heap.size w w5) := Gr.trans Hb1.out hg5
    clear c0 h0 hg5 F
    go_wp2
    go_ret
    exact ⟨rfl, hfin.out⟩
  · have HN : Hid (decN l 4 = 0) := hn
    have HX : Hid (decE l 4 = 15) := he
    clear hn he
    go_enter Try.func7, Try.ntmps7
    go_wp2_with fail
    refine (decode_r _ _ _ l 4 hrd.out (by omega) _ _ HN.out HX.out).mono ?_
    rintro e w1 ⟨rfl, hb1⟩
    go_wp2_with fail
    refine (alive_any _).mono ?_
    rintro e w2 ⟨rfl, hb2⟩
    go_wp2
    go_ret
    exact ⟨rfl, Gr.trans hb1 hb2⟩

set_option maxHeartbeats 400000 in
theorem only_large (w : World) (ao : Option Addr) (len cap : Nat) (hl : 200 < len) :
    Calls Try.prog 7 #[.slice ao len cap] w fun e w' => e = .returned (.bool true) ∧ Below w.heap.size w w' := by
  go_enter Try.func7, Try.ntmps7
  go_wp2_with (go_at_call 8; refine (alive_any _).mono ?_; rintro e w1 ⟨rfl, hb1⟩)
  go_ret
  exact ⟨rfl, hb1⟩
end Go.Proofs.Ytcbfjhcblajkjaa
