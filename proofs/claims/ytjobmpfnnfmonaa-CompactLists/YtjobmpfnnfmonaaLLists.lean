/-
  What the law CompactLists comes to: true, and nothing that was there has turned; for whatever bytes and strings.
-/
import Derived.Test.YtjobmpfnnfmonaaW10
namespace Go.Proofs.Ytjobmpfnnfmonaa
open Go.RowKit

/-- What the callees of the law's last statement tell. -/
def listsWord (l : List UInt8) (ls : List (List UInt8)) (x : List UInt8) (f : FuncId) (_args : Array Value) (v : Value) (w : World) : Prop :=
  (f = 10 ∧ v = .bool true) ∨ (f = 20 ∧ Rs w v (l ++ listL ls)) ∨ (f = 21 ∧ Rs w v (l ++ strL x))

theorem listsFit (w0 : World) (l : List UInt8) (ls : List (List UInt8)) (x : List UInt8) : Mild.Fit Gr (fun w => Gr w0 w) (listsWord l ls x) where
  refl := Gr.refl
  trans := fun _ _ _ => Gr.trans
  inC := fun _ _ => Gr.trans
  keep := by
    rintro f args v w w' (h | ⟨h1, h3⟩ | ⟨h1, h3⟩) hg
    · exact .inl h
    · exact .inr (.inl ⟨h1, h3.gr hg⟩)
    · exact .inr (.inr ⟨h1, h3.gr hg⟩)

set_option maxRecDepth 100000 in
set_option maxHeartbeats 2000000 in
/-- The last two statements. -/
theorem lists_small (w : World) (v u : Value) (l : List UInt8) (ls : List (List UInt8)) (h : Rs w v l) (hu : RsL w u ls) (hl : l.length ≤ 300) (hs : smallB ls = true) :
    Calls Try.prog 4 #[v, u] w fun e w' => e = .returned (.bool true) ∧ Below w.heap.size w w' := by
  have hrd : Hid (Rs w v l) := h
  have hru : Hid (RsL w u ls) := hu
  obtain ⟨ao, cap, rfl⟩ := Rd.len h
  obtain ⟨a1, c1, rfl⟩ := RdL.len hu
  have hsm : ls.length ≤ 40 ∧ ∀ x ∈ ls, x.length ≤ 300 := of_decide_eq_true hs
  have Hsm : Hid (ls.length ≤ 40 ∧ ∀ x ∈ ls, x.length ≤ 300) := hsm
  have Hs : Hid (smallB ls = true) := hs
  clear h hu hsm hs
  have HP : Hid (∀ w', Gr w w' → Calls Try.prog 18 #[.slice ao l.length cap, .slice a1 ls.length c1] w' fun e w'' => ∃ v', e = .returned v' ∧ Own 5 w'.heap.size w'' v' (l ++ listL ls) ∧ Below w'.heap.size w' w'') :=
    fun w' hg => putList_any w' _ _ _ l ls (hrd.out.gr hg) (hru.out.gr hg) (by omega) (by have := Hsm.out.1; omega) (fun x hx => by have := Hsm.out.2 x hx; omega)
  have HR : Hid (∀ w', Gr w w' → Calls Try.prog 20 #[.slice ao l.length cap, .slice a1 ls.length c1] w' fun e w'' => ∃ v', e = .returned v' ∧ Own 5 w'.heap.size w'' v' (l ++ listL ls) ∧ Below w'.heap.size w' w'') :=
    fun w' hg => refPutList_any w' _ _ _ l ls (hrd.out.gr hg) (hru.out.gr hg) (by omega) (by have := Hsm.out.1; omega) (fun x hx => by have := Hsm.out.2 x hx; omega)
  go_enter Try.func4, Try.ntmps4
  go_wp2_with fail
  refine (small_any _ _ _ hru.out).mono ?_
  rintro e w0 ⟨rfl, rfl⟩
  rw [Hs.out]
  go_wp2_with fail
  refine (HP.out _ (Gr.refl _)).mono ?_
  rintro e w1 ⟨v1, rfl, ho1, hb1⟩
  have hal : Gr w1 (w1.alloc (.cells #[] 5)) := (Below.refl _ _).alloc (Nat.le_refl _) _
  have H1 : Hid (Gr w (w1.alloc (.cells #[] 5)) ∧ Rs (w1.alloc (.cells #[] 5)) v1 (l ++ listL ls)) := ⟨Gr.trans hb1 hal, ho1.rd.rs.gr hal⟩
  have He : Hid (Rs (w1.alloc (.cells #[] 5)) (.slice (some ⟨w1.heap.size, 0, none⟩) 0 0) []) := (Own.empty 5 w1.heap.size w1 (Nat.le_refl _)).rd
  clear ho1 hb1 hal
  obtain ⟨x, f0, wf, hwf, hf, hxl, hsel⟩ : ∃ (x : List UInt8) (f0 : Value) (wf : World), wf = w1.alloc (.cells #[] 5) ∧ Rs wf f0 x ∧ x.length ≤ 300 ∧
      ((ls.length = 0 ∧ f0 = .slice (some ⟨w1.heap.size, 0, none⟩) 0 0) ∨ (0 < ls.length ∧ ∃ b off, a1 = some ⟨b, off, none⟩ ∧ wf.cell? ⟨b, off, none⟩ = some f0)) := by
    rcases Nat.eq_zero_or_pos ls.length with h0 | h0
    · exact ⟨[], _, _, rfl, He.out, by simp, .inl ⟨h0, rfl⟩⟩
    · obtain ⟨b, off, cap', e, _, _, hc⟩ := (hru.out.gr H1.out.1).at h0
      simp only [Value.slice.injEq] at e
      obtain ⟨rfl, -, rfl⟩ := e
      obtain ⟨a2, c2, hcell, hrd2⟩ := hc 0 h0
      exact ⟨ls[0], _, _, rfl, hrd2, Hsm.out.2 _ (List.getElem_mem h0), .inr ⟨h0, b, off, rfl, by simpa using hcell⟩⟩
  subst hwf
  have Hf : Hid (Rs (w1.alloc (.cells #[] 5)) f0 x) := hf
  obtain ⟨af, cf, hfv⟩ := Rd.len hf
  subst hfv
  clear hf He
  have rest : ∀ (K : Prop), K → K := fun _ h => h
  clear rest
  rcases hsel with ⟨h0, hfe⟩ | ⟨h0, b, off, rfl, hcell⟩
  · obtain ⟨rfl, -, rfl⟩ : af = some ⟨w1.heap.size, 0, none⟩ ∧ True ∧ cf = 0 := by
      simp only [Value.slice.injEq] at hfe
      exact ⟨hfe.1, trivial, hfe.2.2⟩
    have hx0 : x = [] := List.eq_nil_of_length_eq_zero (by simp only [Value.slice.injEq] at hfe; exact hfe.2.1)
    subst hx0
    clear hfe
    have hl0 : ls = [] := List.eq_nil_of_length_eq_zero h0
    subst hl0
    clear h0
    go_wp2_with fail
    refine (putBytes_any _ _ _ _ _ l [] (hrd.out.gr H1.out.1) Hf.out (by omega) (by omega)).mono ?_
    rintro e w2 ⟨v2, rfl, ho2, hb2⟩
    have h0r : Rs w2 (.slice ao l.length cap) l := (hrd.out.gr H1.out.1).gr hb2
    have h1r : Rs w2 v1 (l ++ listL []) := H1.out.2.gr hb2
    have h2r : Rs w2 v2 (l ++ strL []) := ho2.rd
    have h3r : Rs w2 (.slice (some ⟨w1.heap.size, 0, none⟩) 0 0) [] := Hf.out.gr hb2
    have hg : Gr w w2 := Gr.trans H1.out.1 hb2
    have Hg : Hid (Gr w w2) := hg
    clear ho2 hb2 hg
    go_wp2_with fail
    have F := listsFit w2 l [] []
    refine Mild.wp_region F (by kernel_rfl) (by kernel_rfl) (Below.drewN' _ _ 1) ?_
    refine Mild.step_call rfl 10 #[] ?run (fun v _ => v = .bool true) (fun v w w' _ h => h) (fun w _ _ => (alive_any w).mono fun e w' ⟨he, hb⟩ => ⟨_, he, hb, .inl ⟨rfl, rfl⟩⟩) ?hk ?_
    case run => intro w; go_simp
    case hk =>
      rintro v w' _ (⟨_, hv⟩ | ⟨hf, _⟩ | ⟨hf, _⟩)
      · exact hv
      · exact absurd hf (by decide)
      · exact absurd hf (by decide)
    intro v hv
    obtain ⟨_, _, rfl⟩ := hv (by simp)
    simp only [Act.put, List.setIfInBounds_toArray, List.set_cons_succ, List.set_cons_zero]
    have k1 := fun w0 k (hC : Gr w2 w0) => run_conv_rd Try.bt 9 (by kernel_rfl) (w0.drewN k) _ v1 _ ((h1r.gr hC).drewN k)
    have k2 := fun w0 k (hC : Gr w2 w0) => run_conv_rd Try.bt 9 (by kernel_rfl) (w0.drewN k) _ v2 _ ((h2r.gr hC).drewN k)
    repeat (refine Mild.step_quiet F rfl rfl rfl (fun w0 hC hF K hK => ?_); clear hF; go_big_quiet_op; refine hK _ ?_; clear hK K hC; clear w0)
    refine Mild.step_call rfl 20 #[.slice ao l.length cap, .slice a1 0 c1] ?run1 (fun v w => Rs w v (l ++ listL [])) (fun v w w' hg h => h.gr hg) (fun w hC _ => (HR.out w (Gr.trans Hg.out hC)).mono fun e w' ⟨v', he, ho, hb⟩ => ⟨v', he, hb, .inr (.inl ⟨rfl, ho.rd⟩)⟩) ?hk1 ?_
    case run1 => intro w; go_simp
    case hk1 =>
      rintro v w' _ (⟨hf, hv⟩ | ⟨hf, hv⟩ | ⟨hf, hv⟩)
      · exact absurd hf (by decide)
      · exact hv
      · exact absurd hf (by decide)
    intro r1 _
    simp only [Act.put, List.setIfInBounds_toArray, List.set_cons_succ, List.set_cons_zero]
    repeat (refine Mild.step_quiet F rfl rfl rfl (fun w0 hC hF K hK => ?_); clear hF; go_big_quiet_op; refine hK _ ?_; clear hK K hC; clear w0)
    refine Mild.step_quiet F rfl rfl rfl (fun w0 hC hF K hK => ?_)
    have hcv := fun k => run_conv_rd Try.bt 9 (by kernel_rfl) (w0.drewN k) _ r1 (l ++ listL []) (((hF 36 (by simp [Oper.looksAt, Op.operands])).2 rfl).drewN k)
    clear hC hF
    go_big_quiet_op
    refine hK _ ?_
    clear hK K hcv
    clear w0
    repeat (refine Mild.step_quiet F rfl rfl rfl (fun w0 hC hF K hK => ?_); clear hF; go_big_quiet_op; refine hK _ ?_; clear hK K hC; clear w0)
    refine Mild.step_call rfl 21 #[.slice ao l.length cap, (.slice (some ⟨w1.heap.size, 0, none⟩) 0 0)] ?run2 (fun v w => Rs w v (l ++ strL [])) (fun v w w' hg h => h.gr hg) (fun w hC _ => (refPutBytes w _ _ _ _ l [] (h0r.gr hC) (h3r.gr hC) (by omega) (by omega)).mono fun e w' ⟨v', he, ho, hb⟩ => ⟨v', he, hb, .inr (.inr ⟨rfl, ho.rd⟩)⟩) ?hk2 ?_
    case run2 => intro w; go_simp
    case hk2 =>
      rintro v w' _ (⟨hf, hv⟩ | ⟨hf, hv⟩ | ⟨hf, hv⟩)
      · exact absurd hf (by decide)
      · exact absurd hf (by decide)
      · exact hv
    intro r2 _
    simp only [Act.put, List.setIfInBounds_toArray, List.set_cons_succ, List.set_cons_zero]
    repeat (refine Mild.step_quiet F rfl rfl rfl (fun w0 hC hF K hK => ?_); clear hF; go_big_quiet_op; refine hK _ ?_; clear hK K hC; clear w0)
    refine Mild.step_quiet F rfl rfl rfl (fun w0 hC hF K hK => ?_)
    have hcv := fun k => run_conv_rd Try.bt 9 (by kernel_rfl) (w0.drewN k) _ r2 (l ++ strL []) (((hF 45 (by simp [Oper.looksAt, Op.operands])).2 rfl).drewN k)
    clear hC hF
    go_big_quiet_op
    refine hK _ ?_
    clear hK K hcv
    clear w0
    repeat (refine Mild.step_quiet F rfl rfl rfl (fun w0 hC hF K hK => ?_); clear hF; go_big_quiet_op; refine hK _ ?_; clear hK K hC; clear w0)
    intro w5 hg5 _
    have hfin : Hid (Below w.heap.size w w5) := Gr.trans Hg.out hg5
    clear k1 k2 h0r h1r h2r h3r hg5 F
    go_wp2
    go_ret
    exact ⟨rfl, hfin.out⟩
  · go_wp2_with fail
    refine (putBytes_any _ _ _ _ _ l x (hrd.out.gr H1.out.1) Hf.out (by omega) (by omega)).mono ?_
    rintro e w2 ⟨v2, rfl, ho2, hb2⟩
    have h0r : Rs w2 (.slice ao l.length cap) l := (hrd.out.gr H1.out.1).gr hb2
    have h1r : Rs w2 v1 (l ++ listL ls) := H1.out.2.gr hb2
    have h2r : Rs w2 v2 (l ++ strL x) := ho2.rd
    have h3r : Rs w2 (.slice af x.length cf) x := Hf.out.gr hb2
    have hg : Gr w w2 := Gr.trans H1.out.1 hb2
    have Hg : Hid (Gr w w2) := hg
    clear ho2 hb2 hg
    go_wp2_with fail
    have F := listsFit w2 l ls x
    refine Mild.wp_region F (by kernel_rfl) (by kernel_rfl) (Below.drewN' _ _ 1) ?_
    refine Mild.step_call rfl 10 #[] ?run (fun v _ => v = .bool true) (fun v w w' _ h => h) (fun w _ _ => (alive_any w).mono fun e w' ⟨he, hb⟩ => ⟨_, he, hb, .inl ⟨rfl, rfl⟩⟩) ?hk ?_
    case run => intro w; go_simp
    case hk =>
      rintro v w' _ (⟨_, hv⟩ | ⟨hf, _⟩ | ⟨hf, _⟩)
      · exact hv
      · exact absurd hf (by decide)
      · exact absurd hf (by decide)
    intro v hv
    obtain ⟨_, _, rfl⟩ := hv (by simp)
    simp only [Act.put, List.setIfInBounds_toArray, List.set_cons_succ, List.set_cons_zero]
    have k1 := fun w0 k (hC : Gr w2 w0) => run_conv_rd Try.bt 9 (by kernel_rfl) (w0.drewN k) _ v1 _ ((h1r.gr hC).drewN k)
    have k2 := fun w0 k (hC : Gr w2 w0) => run_conv_rd Try.bt 9 (by kernel_rfl) (w0.drewN k) _ v2 _ ((h2r.gr hC).drewN k)
    repeat (refine Mild.step_quiet F rfl rfl rfl (fun w0 hC hF K hK => ?_); clear hF; go_big_quiet_op; refine hK _ ?_; clear hK K hC; clear w0)
    refine Mild.step_call rfl 20 #[.slice ao l.length cap, .slice (some ⟨b, off, none⟩) ls.length c1] ?run1 (fun v w => Rs w v (l ++ listL ls)) (fun v w w' hg h => h.gr hg) (fun w hC _ => (HR.out w (Gr.trans Hg.out hC)).mono fun e w' ⟨v', he, ho, hb⟩ => ⟨v', he, hb, .inr (.inl ⟨rfl, ho.rd⟩)⟩) ?hk1 ?_
    case run1 => intro w; go_simp
    case hk1 =>
      rintro v w' _ (⟨hf, hv⟩ | ⟨hf, hv⟩ | ⟨hf, hv⟩)
      · exact absurd hf (by decide)
      · exact hv
      · exact absurd hf (by decide)
    intro r1 _
    simp only [Act.put, List.setIfInBounds_toArray, List.set_cons_succ, List.set_cons_zero]
    repeat (refine Mild.step_quiet F rfl rfl rfl (fun w0 hC hF K hK => ?_); clear hF; go_big_quiet_op; refine hK _ ?_; clear hK K hC; clear w0)
    refine Mild.step_quiet F rfl rfl rfl (fun w0 hC hF K hK => ?_)
    have hcv := fun k => run_conv_rd Try.bt 9 (by kernel_rfl) (w0.drewN k) _ r1 (l ++ listL ls) (((hF 36 (by simp [Oper.looksAt, Op.operands])).2 rfl).drewN k)
    clear hC hF
    go_big_quiet_op
    refine hK _ ?_
    clear hK K hcv
    clear w0
    repeat (refine Mild.step_quiet F rfl rfl rfl (fun w0 hC hF K hK => ?_); clear hF; go_big_quiet_op; refine hK _ ?_; clear hK K hC; clear w0)
    refine Mild.step_call rfl 21 #[.slice ao l.length cap, (.slice af x.length cf)] ?run2 (fun v w => Rs w v (l ++ strL x)) (fun v w w' hg h => h.gr hg) (fun w hC _ => (refPutBytes w _ _ _ _ l x (h0r.gr hC) (h3r.gr hC) (by omega) (by omega)).mono fun e w' ⟨v', he, ho, hb⟩ => ⟨v', he, hb, .inr (.inr ⟨rfl, ho.rd⟩)⟩) ?hk2 ?_
    case run2 => intro w; go_simp
    case hk2 =>
      rintro v w' _ (⟨hf, hv⟩ | ⟨hf, hv⟩ | ⟨hf, hv⟩)
      · exact absurd hf (by decide)
      · exact absurd hf (by decide)
      · exact hv
    intro r2 _
    simp only [Act.put, List.setIfInBounds_toArray, List.set_cons_succ, List.set_cons_zero]
    repeat (refine Mild.step_quiet F rfl rfl rfl (fun w0 hC hF K hK => ?_); clear hF; go_big_quiet_op; refine hK _ ?_; clear hK K hC; clear w0)
    refine Mild.step_quiet F rfl rfl rfl (fun w0 hC hF K hK => ?_)
    have hcv := fun k => run_conv_rd Try.bt 9 (by kernel_rfl) (w0.drewN k) _ r2 (l ++ strL x) (((hF 45 (by simp [Oper.looksAt, Op.operands])).2 rfl).drewN k)
    clear hC hF
    go_big_quiet_op
    refine hK _ ?_
    clear hK K hcv
    clear w0
    repeat (refine Mild.step_quiet F rfl rfl rfl (fun w0 hC hF K hK => ?_); clear hF; go_big_quiet_op; refine hK _ ?_; clear hK K hC; clear w0)
    intro w5 hg5 _
    have hfin : Hid (Below w.heap.size w w5) := Gr.trans Hg.out hg5
    clear k1 k2 h0r h1r h2r h3r hg5 F
    go_wp2
    go_ret
    exact ⟨rfl, hfin.out⟩

set_option maxRecDepth 100000 in
set_option maxHeartbeats 1000000 in
theorem lists_large (w : World) (ao : Option Addr) (len cap : Nat) (u : Value) (hl : 300 < len) :
    Calls Try.prog 4 #[.slice ao len cap, u] w fun e w' => e = .returned (.bool true) ∧ Below w.heap.size w w' := by
  go_enter Try.func4, Try.ntmps4
  go_wp2_with (go_at_call 10; refine (alive_any _).mono ?_; rintro e w1 ⟨rfl, hb1⟩)
  go_ret
  exact ⟨rfl, hb1⟩

set_option maxRecDepth 100000 in
set_option maxHeartbeats 1000000 in
theorem lists_many (w : World) (ao : Option Addr) (len cap : Nat) (u : Value) (ls : List (List UInt8)) (hl : ¬ 300 < len) (hu : RsL w u ls) (hs : smallB ls = false) :
    Calls Try.prog 4 #[.slice ao len cap, u] w fun e w' => e = .returned (.bool true) ∧ Below w.heap.size w w' := by
  have Hs : Hid (smallB ls = false) := hs
  have Hu : Hid (RsL w u ls) := hu
  clear hs hu
  go_enter Try.func4, Try.ntmps4
  go_wp2_with fail
  refine (small_any _ _ _ Hu.out).mono ?_
  rintro e w0 ⟨rfl, rfl⟩
  rw [Hs.out]
  go_wp2_with (go_at_call 10; refine (alive_any _).mono ?_; rintro e w1 ⟨rfl, hb1⟩)
  go_ret
  exact ⟨rfl, hb1⟩

end Go.Proofs.Ytjobmpfnnfmonaa
