/-
  The law BechBits at few bytes: true, and nothing that was there has turned.
-/
import Derived.Test.YtemgaoikngebeaaDoorB13
namespace Go.Proofs.YtemgaoikngebeaaDoor
open Go.RowKit

/-- What the callees of the law's last statement tell. -/
def bitsWord (l : List UInt8) (f : FuncId) (_args : Array Value) (v : Value) (w : World) : Prop :=
  (f = 10 ∧ v = .bool true) ∨ (f = 19 ∧ Rs w v (spr l)) ∨ (f = 20 ∧ Rs w v (spr l))
theorem bitsFit (w0 : World) (l : List UInt8) : Mild.Fit Gr (fun w => Gr w0 w) (bitsWord l) where
  refl := Gr.refl
  trans := fun _ _ _ => Gr.trans
  inC := fun _ _ => Gr.trans
  keep := by
    rintro f args v w w' (h | ⟨h1, h3⟩ | ⟨h1, h3⟩) hg
    · exact .inl h
    · exact .inr (.inl ⟨h1, h3.gr hg⟩)
    · exact .inr (.inr ⟨h1, h3.gr hg⟩)

set_option maxRecDepth 100000 in
set_option maxHeartbeats 1000000 in
theorem bits_small (w : World) (v : Value) (l : List UInt8) (h : Rs w v l) (hl : l.length ≤ 200) (ht : Tn w) :
    Calls Tryd.prog 6 #[v] w fun e w' => e = .returned (.bool true) ∧ Below w.heap.size w w' := by
  have HR : Hid (Rs w v l) := h
  have HT : Hid (Tn w) := ht
  obtain ⟨ao, cap, rfl⟩ := Rd.len h
  clear h ht
  obtain ⟨r, Hr⟩ : ∃ r : List UInt8, Hid (gatL l = r) := ⟨gatL l, rfl⟩
  obtain ⟨x, Hx⟩ : ∃ x : Int, Hid (gatE l = x) := ⟨gatE l, rfl⟩
  go_enter Tryd.func6, Tryd.ntmps6
  go_wp2_with fail
  refine (gather_r w _ _ l HR.out (by omega) r x Hr.out Hx.out).mono ?_
  rintro e w1 ⟨v1, rfl, ho1, hb1⟩
  have Hb1 : Hid (Gr w w1) := hb1
  have Ho1 : Hid (Rs w1 v1 r) := ho1.rd
  clear hb1 ho1
  go_wp2_with fail
  refine (rgather_r w1 _ _ l (HR.out.gr Hb1.out) (by omega) r x Hr.out Hx.out).mono ?_
  rintro e w2 ⟨v2, rfl, ho2, hb2⟩
  have H : Hid (Gr w w2 ∧ Rs w2 v1 r ∧ Rs w2 v2 r) := ⟨Gr.trans Hb1.out hb2, Ho1.out.gr hb2, ho2.rd⟩
  clear hb2 ho2 Hb1 Ho1
  go_wp2_with fail
  obtain ⟨hg, h1, h2⟩ := H.out
  have h0 : Rs w2 (.slice ao l.length cap) l := HR.out.gr hg
  have F := bitsFit w2 l
  refine Mild.wp_region F (by kernel_rfl) (by kernel_rfl) (Below.drewN' _ _ 1) ?_
  refine Mild.step_call rfl 10 #[] ?run (fun v _ => v = .bool true) (fun v w w' _ h => h) (fun w' hC _ => (alive_any w' (HT.out.gr (Gr.trans hg hC))).mono fun e w' ⟨he, hb⟩ => ⟨_, he, hb, .inl ⟨rfl, rfl⟩⟩) ?hk ?_
  case run => intro w; go_simp
  case hk =>
    rintro v w' _ (⟨_, hv⟩ | ⟨hf, _⟩ | ⟨hf, _⟩)
    · exact hv
    · exact absurd hf (by decide)
    · exact absurd hf (by decide)
  intro v hv
  obtain ⟨_, _, rfl⟩ := hv (by simp)
  simp only [Act.put, List.setIfInBounds_toArray, List.set_cons_succ, List.set_cons_zero]
  have c1 := fun w0 k (hC : Gr w2 w0) => run_conv_rd Tryd.bt 9 (by kernel_rfl) (w0.drewN k) _ v1 _ ((h1.gr hC).drewN k)
  have c2 := fun w0 k (hC : Gr w2 w0) => run_conv_rd Tryd.bt 9 (by kernel_rfl) (w0.drewN k) _ v2 _ ((h2.gr hC).drewN k)
  repeat (refine Mild.step_quiet F rfl rfl rfl (fun w0 hC hF K hK => ?_); clear hF; go_big_quiet_op; refine hK _ ?_; clear hK K hC; clear w0)
  refine Mild.step_call rfl 19 #[.slice ao l.length cap] ?run1 (fun v w => Rs w v (spr l)) (fun v w w' hg h => h.gr hg) (fun w' hC _ => (spread_any w' _ _ l (h0.gr hC) (by omega)).mono fun e w' ⟨v', he, ho, hb⟩ => ⟨v', he, hb, .inr (.inl ⟨rfl, ho.rd⟩)⟩) ?hk1 ?_
  case run1 => intro w; go_simp
  case hk1 =>
    rintro v w' _ (⟨hf, _⟩ | ⟨hf, hv⟩ | ⟨hf, _⟩)
    · exact absurd hf (by decide)
    · exact hv
    · exact absurd hf (by decide)
  intro r1 _
  simp only [Act.put, List.setIfInBounds_toArray, List.set_cons_succ, List.set_cons_zero]
  refine Mild.step_quiet F rfl rfl rfl (fun w0 hC hF K hK => ?_)
  have hcv := fun k => run_conv_rd Tryd.bt 9 (by kernel_rfl) (w0.drewN k) _ r1 (spr l) (((hF 24 (by simp [Oper.looksAt, Op.operands])).2 rfl).drewN k)
  clear hC hF
  go_big_quiet_op
  refine hK _ ?_
  clear hK K hcv
  clear w0
  repeat (refine Mild.step_quiet F rfl rfl rfl (fun w0 hC hF K hK => ?_); clear hF; go_big_quiet_op; refine hK _ ?_; clear hK K hC; clear w0)
  refine Mild.step_call rfl 20 #[.slice ao l.length cap] ?run2 (fun v w => Rs w v (spr l)) (fun v w w' hg h => h.gr hg) (fun w' hC _ => (rspread_any w' _ _ l (h0.gr hC) (by omega)).mono fun e w' ⟨v', he, ho, hb⟩ => ⟨v', he, hb, .inr (.inr ⟨rfl, ho.rd⟩)⟩) ?hk2 ?_
  case run2 => intro w; go_simp
  case hk2 =>
    rintro v w' _ (⟨hf, _⟩ | ⟨hf, _⟩ | ⟨hf, hv⟩)
    · exact absurd hf (by decide)
    · exact absurd hf (by decide)
    · exact hv
  intro r2 _
  simp only [Act.put, List.setIfInBounds_toArray, List.set_cons_succ, List.set_cons_zero]
  refine Mild.step_quiet F rfl rfl rfl (fun w0 hC hF K hK => ?_)
  have hcv := fun k => run_conv_rd Tryd.bt 9 (by kernel_rfl) (w0.drewN k) _ r2 (spr l) (((hF 27 (by simp [Oper.looksAt, Op.operands])).2 rfl).drewN k)
  clear hC hF
  go_big_quiet_op
  refine hK _ ?_
  clear hK K hcv
  clear w0
  repeat (refine Mild.step_quiet F rfl rfl rfl (fun w0 hC hF K hK => ?_); clear hF; go_big_quiet_op; refine hK _ ?_; clear hK K hC; clear w0)
  intro w5 hg5 _
  have hfin : Hid (Below w.heap.size w w5) := Gr.trans hg hg5
  clear c1 c2 h0 h1 h2 hg hg5 H F
  go_wp2
  go_ret
  exact ⟨rfl, hfin.out⟩
end Go.Proofs.YtemgaoikngebeaaDoor
