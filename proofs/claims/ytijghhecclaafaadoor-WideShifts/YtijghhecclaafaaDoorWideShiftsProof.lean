/-
  Any number, shifted by any amount, up and down, is as the document says. Conditions: none.
-/
import Derived.Test.YtijghhecclaafaaDoorCards
import Derived.Test.YtijghhecclaafaaDoorTie
import Derived.Test.YtijghhecclaafaaDoorLaid
import Derived.Test.YtijghhecclaafaaDoorV13
import Derived.Test.YtijghhecclaafaaDoorArrOpenW
import Derived.Test.YtijghhecclaafaaDoorLW0
import Derived.WalkKit
import Derived.ProofKit
import Derived.OpenShut
import Derived.ShutString
import Derived.ChangeOld
import Derived.Below
import Derived.Deep.DeepHandedRow
namespace Go.Proofs.YtijghhecclaafaaDoor.wideShifts
open Go.ChangeShapes Go.WideShapes Go.ChangeAt Go.RowKit
open Go.ChangeMaps (open_string shut_string)
set_option linter.unusedVariables false

theorem own : ownKnob Tryd.prog.godebug = none := by kernel_rfl
theorem laidOut : laidOutB Tryd.prog = true := by kernel_rfl

set_option maxRecDepth 20000 in
set_option maxHeartbeats 8000000 in
/-- The walk. -/
theorem walk (l0 : Nat) (a1 : Int) (w : World) (e0 : l0 < M) (w1 : (Lit.int .i64 a1).wf = true) (ht : Facts w) :
    Calls Tryd.prog 6 #[wv l0, .int .i64 a1] w fun e w' => e = .returned (.bool true) ∧ Below w.heap.size w w' := by
  have HT : Hid (Tb w) := ht
  obtain ⟨a, rfl⟩ : ∃ x, x = l0 := ⟨_, rfl⟩
  obtain ⟨z, rfl⟩ : ∃ x, x = a1 := ⟨_, rfl⟩
  have hz : z < 9223372036854775808 := by
    have e2 : IntKind.i64.max = 9223372036854775807 := rfl
    simp only [Lit.wf, e2, Bool.and_eq_true, decide_eq_true_eq] at w1
    omega
  have HAl : Hid (∀ w', Below w.heap.size w w' → Calls Tryd.prog 15 #[] w' fun e w'' => e = .returned (.bool true) ∧ Below w'.heap.size w' w'') := fun w' hb => alive_any w' (HT.out.gr hb)
  obtain ⟨x, ex⟩ : ∃ x, a * 2 ^ z.toNat % M = x := ⟨_, rfl⟩
  obtain ⟨y, ey⟩ : ∃ x, a / 2 ^ z.toNat = x := ⟨_, rfl⟩
  have Lx : Hid (x < M) := by show _ < _; rw [← ex]; exact Nat.mod_lt _ (by decide)
  have Ly : Hid (y < M) := by show _ < _; rw [← ey]; exact Nat.lt_of_le_of_lt (Nat.div_le_self _ _) e0
  have H1 : Hid (∀ w, Calls Tryd.prog 27 #[wv a, .int .i64 z] w fun e w' => e = .returned (wv x) ∧ Below w.heap.size w w') := fun w => by have := shl_any a e0 z hz w; rw [ex] at this; exact this
  have H2 : Hid (∀ w, Calls Tryd.prog 28 #[wv a, .int .i64 z] w fun e w' => e = .returned (wv x) ∧ Below w.heap.size w w') := fun w => by have := rshl_any a e0 z w; rw [ex] at this; exact this
  have H3 : Hid (∀ w, Calls Tryd.prog 29 #[wv a, .int .i64 z] w fun e w' => e = .returned (wv y) ∧ Below w.heap.size w w') := fun w => by have := shr_any a e0 z hz w; rw [ey] at this; exact this
  have H4 : Hid (∀ w, Calls Tryd.prog 30 #[wv a, .int .i64 z] w fun e w' => e = .returned (wv y) ∧ Below w.heap.size w w') := fun w => by have := rshr_any a e0 z w; rw [ey] at this; exact this
  clear ex ey hz e0 w1 ht
  have m := Mem.start w
  go_enter Tryd.func6, Tryd.ntmps6
  go_wp2_with ((first
    | (refine W.box m rfl (.tmp 0) rfl a rfl ?_; clear m; intro g2 wx2 m)); try simp only [Act.put, List.setIfInBounds_toArray, List.set_cons_succ, List.set_cons_zero])
  have F := N_fit 24 wx2 (c64 (w4 0)) (c64 (w4 0)) (fun f _ v _ => (f = 15 → v = .bool true) ∧ (f = 27 → v = wv x) ∧ (f = 28 → v = wv x) ∧ (f = 29 → v = wv y) ∧ (f = 30 → v = wv y)) (fun _ _ _ _ _ h => h)
  refine Mild2.wp_region F (by kernel_rfl) (by kernel_rfl) (Vw.draw _) ?_
  refine Mild2.step_callv rfl rfl (15) (#[]) (.bool true) (fun w => by go_simp) (fun w0 hC => HAl.out w0 (m.oldM hC).below) (fun _ _ h => Vw.of_gr h) (fun _ => ⟨fun _ => rfl, fun h => absurd h (by decide), fun h => absurd h (by decide), fun h => absurd h (by decide), fun h => absurd h (by decide)⟩) (fun _ _ h => h.1 rfl) ?_
  simp only [Act.put, List.setIfInBounds_toArray, List.set_cons_succ, List.set_cons_zero]
  iterate 1 (refine Mild2.step_quiet F rfl rfl rfl (fun w0 hC hF K hK => ?_); clear hF; go_big_quiet_op; refine hK _ ?_; clear hK K hC; clear w0)
  refine Mild2.step_known F rfl rfl (wv a) (fun w0 hC _ => W.newload m hC (.tmp 2) rfl 0 rfl rfl) ?_
  simp only [Act.put, List.setIfInBounds_toArray, List.set_cons_succ, List.set_cons_zero]
  iterate 1 (refine Mild2.step_quiet F rfl rfl rfl (fun w0 hC hF K hK => ?_); clear hF; go_big_quiet_op; refine hK _ ?_; clear hK K hC; clear w0)
  refine Mild2.step_callv rfl rfl (27) (#[wv a, .int .i64 z]) (wv x) (fun w => by go_simp) (fun w0 hC => H1.out w0) (fun _ _ h => Vw.of_gr h) (fun _ => ⟨fun h => absurd h (by decide), fun _ => rfl, fun h => absurd h (by decide), fun h => absurd h (by decide), fun h => absurd h (by decide)⟩) (fun _ _ h => h.2.1 rfl) ?_
  simp only [Act.put, List.setIfInBounds_toArray, List.set_cons_succ, List.set_cons_zero]
  refine Mild2.step_known F rfl rfl (wv a) (fun w0 hC _ => W.newload m hC (.tmp 2) rfl 0 rfl rfl) ?_
  simp only [Act.put, List.setIfInBounds_toArray, List.set_cons_succ, List.set_cons_zero]
  iterate 1 (refine Mild2.step_quiet F rfl rfl rfl (fun w0 hC hF K hK => ?_); clear hF; go_big_quiet_op; refine hK _ ?_; clear hK K hC; clear w0)
  refine Mild2.step_callv rfl rfl (28) (#[wv a, .int .i64 z]) (wv x) (fun w => by go_simp) (fun w0 hC => H2.out w0) (fun _ _ h => Vw.of_gr h) (fun _ => ⟨fun h => absurd h (by decide), fun h => absurd h (by decide), fun _ => rfl, fun h => absurd h (by decide), fun h => absurd h (by decide)⟩) (fun _ _ h => h.2.2.1 rfl) ?_
  simp only [Act.put, List.setIfInBounds_toArray, List.set_cons_succ, List.set_cons_zero]
  refine Mild2.step_known F rfl rfl (.bool true) (fun w0 hC _ => W.exec_eql (.tmp 9) (.tmp 12) _ rfl x x true Lx.out Lx.out (by simp) rfl rfl) ?_
  simp only [Act.put, List.setIfInBounds_toArray, List.set_cons_succ, List.set_cons_zero]
  iterate 1 (refine Mild2.step_quiet F rfl rfl rfl (fun w0 hC hF K hK => ?_); clear hF; go_big_quiet_op; refine hK _ ?_; clear hK K hC; clear w0)
  iterate 1 (refine Mild2.step_quiet F rfl rfl rfl (fun w0 hC hF K hK => ?_); clear hF; go_big_quiet_op; refine hK _ ?_; clear hK K hC; clear w0)
  refine Mild2.step_known F rfl rfl (wv a) (fun w0 hC _ => W.newload m hC (.tmp 2) rfl 0 rfl rfl) ?_
  simp only [Act.put, List.setIfInBounds_toArray, List.set_cons_succ, List.set_cons_zero]
  iterate 1 (refine Mild2.step_quiet F rfl rfl rfl (fun w0 hC hF K hK => ?_); clear hF; go_big_quiet_op; refine hK _ ?_; clear hK K hC; clear w0)
  refine Mild2.step_callv rfl rfl (29) (#[wv a, .int .i64 z]) (wv y) (fun w => by go_simp) (fun w0 hC => H3.out w0) (fun _ _ h => Vw.of_gr h) (fun _ => ⟨fun h => absurd h (by decide), fun h => absurd h (by decide), fun h => absurd h (by decide), fun _ => rfl, fun h => absurd h (by decide)⟩) (fun _ _ h => h.2.2.2.1 rfl) ?_
  simp only [Act.put, List.setIfInBounds_toArray, List.set_cons_succ, List.set_cons_zero]
  refine Mild2.step_known F rfl rfl (wv a) (fun w0 hC _ => W.newload m hC (.tmp 2) rfl 0 rfl rfl) ?_
  simp only [Act.put, List.setIfInBounds_toArray, List.set_cons_succ, List.set_cons_zero]
  iterate 1 (refine Mild2.step_quiet F rfl rfl rfl (fun w0 hC hF K hK => ?_); clear hF; go_big_quiet_op; refine hK _ ?_; clear hK K hC; clear w0)
  refine Mild2.step_callv rfl rfl (30) (#[wv a, .int .i64 z]) (wv y) (fun w => by go_simp) (fun w0 hC => H4.out w0) (fun _ _ h => Vw.of_gr h) (fun _ => ⟨fun h => absurd h (by decide), fun h => absurd h (by decide), fun h => absurd h (by decide), fun h => absurd h (by decide), fun _ => rfl⟩) (fun _ _ h => h.2.2.2.2 rfl) ?_
  simp only [Act.put, List.setIfInBounds_toArray, List.set_cons_succ, List.set_cons_zero]
  refine Mild2.step_known F rfl rfl (.bool true) (fun w0 hC _ => W.exec_eql (.tmp 18) (.tmp 21) _ rfl y y true Ly.out Ly.out (by simp) rfl rfl) ?_
  simp only [Act.put, List.setIfInBounds_toArray, List.set_cons_succ, List.set_cons_zero]
  iterate 1 (refine Mild2.step_quiet F rfl rfl rfl (fun w0 hC hF K hK => ?_); clear hF; go_big_quiet_op; refine hK _ ?_; clear hK K hC; clear w0)
  iterate 1 (refine Mild2.step_quiet F rfl rfl rfl (fun w0 hC hF K hK => ?_); clear hF; go_big_quiet_op; refine hK _ ?_; clear hK K hC; clear w0)
  intro w8 hw8 hf8
  replace m := m.oldM hw8
  clear hf8 hw8 F
  go_wp2
  go_ret
  exact ⟨rfl, m.below⟩

theorem contract (H : Type) (enc : TypeId × Value → H) (W : World) (base : Nat) (args : Array Value) (ds gs : List (DataW H)) (before : List MemPlace)
    (hval0 : ∀ (j : Nat) t v, Tryd.f6.params[j]? = some t → args[j]? = some v → Value.okWide Tryd.prog W .any base t v)
    (hW : DataW.Whole enc Tryd.prog Tryd.f6.params.toList Rows.wideShiftsSpec.vars false W args.toList ds gs before) (hL : laidMetH Tryd.prog Rows.wideShiftsRow.laid W) :
    Calls Tryd.prog 6 args W fun e W' => ∃ v, e = .returned v ∧ Rows.wideShiftsSpec.post enc Tryd.prog Tryd.f6 false true false false W args v W' := by
  have hval : ∀ (j : Nat) t v, Tryd.f6.params[j]? = some t → args[j]? = some v → Value.okWide Tryd.prog W .any base t v := hval0
  have hW' := hW
  obtain ⟨p, q, hA0, hV, rfl, hfz, hnd⟩ := hW
  have hA : DataW.TrodAll enc Tryd.prog W 0 (fun _ => true) true Tryd.f6.params.toList args.toList ds p := hA0
  rw [Tryd.params6] at hA hval
  obtain ⟨v0, vs0, d0, ds0, p0, q0, hargs, rfl, rfl, h0, r0⟩ := trodAll_cons hA
  obtain ⟨v1, vs1, d1, ds1, p1, q1, rfl, rfl, rfl, h1, r1⟩ := trodAll_cons r0
  obtain ⟨rfl, rfl, rfl⟩ := trodAll_nil r1
  obtain rfl : args = #[v0, v1] := by cases args; simp_all
  obtain ⟨rfl, rfl⟩ := trodVars_none hV
  have k0 := h0
  have lt0 : ∀ x ∈ p0, x.block < W.heap.size := by obtain ⟨m, hm⟩ := k0; exact DataW.trod_lt m _ _ _ hm
  obtain ⟨l0, e0, rfl⟩ := open_wide (hval 0 24 v0 rfl rfl) h0
  obtain ⟨a1, rfl, rfl, rfl, w1⟩ := open_int Tryd.underlying3 (hval 1 3 v1 rfl rfl) h1
  clear hA0 hval0
  refine (walk l0 a1 W e0 w1 (facts_of hL)).mono fun e W' ⟨he, bel⟩ => ?_
  subst he
  exact ⟨_, rfl, _, _, _, [], _, [], hW', trodAll_mk1 (shut_bool Tryd.underlying4 _), (trodAll_cons_mk (Below.trod laidOut (by kernel_rfl) (of_decide_eq_true (by kernel_rfl)) k0 bel lt0) (trodAll_cons_mk (shut_int Tryd.underlying3 w1) trodAll_mk0)), rfl, bel.frame _, fun h => by cases h⟩

theorem laid_met (os : Os) : laidMet Tryd.prog Rows.wideShiftsRow.laid ((laidWorld os).forCall (fun _ _ => 0) ⟨#[], #[.agg #[.int .u64 0, .int .u64 0, .int .u64 0, .int .u64 0], .int .i64 0], []⟩).memory :=
  laidMet_of_run' 8 (by kernel_rfl) (by kernel_rfl)
theorem reads (os : Os) {H : Type} (enc : TypeId × Value → H) : ∃ places, DataW.whole enc Tryd.prog ((laidWorld os).forCall (fun _ _ => 0) ⟨#[], #[.agg #[.int .u64 0, .int .u64 0, .int .u64 0, .int .u64 0], .int .i64 0], []⟩).memory Tryd.f6.params.toList Rows.wideShiftsSpec.vars false (#[.agg #[.int .u64 0, .int .u64 0, .int .u64 0, .int .u64 0], .int .i64 0] : Array Value).toList 8 = some ([.agg [.lit (.int .u64 0), .lit (.int .u64 0), .lit (.int .u64 0), .lit (.int .u64 0)], .lit (.int .i64 0)], [], places) :=
  ⟨[], by kernel_rfl⟩

set_option maxRecDepth 100000 in
theorem lifted (os : Os) (started : os.Started) (H : Type) (enc : TypeId × Value → H) (F : Stop.Interp) :
    ReturnsInHanded {} Tryd.checked os 6 .any ((OpenSpec.ofChange Rows.wideShiftsSpec).preRow enc Tryd.prog Tryd.f6 Rows.wideShiftsRow.domain false Rows.wideShiftsRow.laid) (((OpenSpec.ofChange Rows.wideShiftsSpec).at F).post enc Tryd.prog Tryd.f6 false true false false) := by
  obtain ⟨places, hx⟩ := reads os enc
  refine returnsInHanded_of_row (C := Tryd.checked) (s := OpenSpec.ofChange Rows.wideShiftsSpec) own started (by kernel_rfl) Tryd.func6
    (witness_row_at (enc := enc) (C := Tryd.checked) false (laidWorld os) #[.agg #[.int .u64 0, .int .u64 0, .int .u64 0, .int .u64 0], .int .i64 0] rfl (by kernel_rfl) (by kernel_rfl) (by kernel_rfl)
      (OpenSpec.preRow_of_cond 8 hx (by kernel_rfl) (fun k hk => by cases hk) (by kernel_rfl) (laid_met os))) ?_
  intro W base args ds gs before hval hW _ _ _ hL _ _
  exact contract H enc W base args ds gs before hval hW hL

theorem said : Rows.WideShiftsSaid :=
  OpenClaim.holds_of_cond 6 Tryd.f6 rfl rfl rfl rfl rfl rfl rfl ⟨rfl, rfl, rfl, rfl, rfl⟩ rfl rfl rfl rfl rfl (by kernel_rfl) Tryd.func6 (by kernel_rfl)
    (of_decide_eq_true (by kernel_rfl)) (by unfold Func.isWrapper; first | (rw [if_pos (by decide +kernel)]; kernel_rfl) | (rw [if_neg (by decide +kernel)]; exact ⟨rfl, rfl⟩))
    (fun os started H enc _ F => by rw [OpenClaim.pre_eq_preRow]; exact lifted os started H enc F)

theorem plain (f : FuncId) (fn : Func) (hf : Tryd.pinned.checked.prog.funcNamed "entail/entaillaw06.WideShifts" = some f) (hfn : Tryd.pinned.checked.prog.funcs[f]? = some fn) :
    false = Tryd.pinned.checked.prog.looks [] ∧ ∀ (j : Nat) t, fn.params[j]? = some t → Tryd.pinned.checked.prog.wantsStandIn t = false := by
  obtain rfl : f = 6 := Option.some.inj ((show Tryd.prog.funcNamed "entail/entaillaw06.WideShifts" = some 6 by kernel_rfl).symm.trans hf) |>.symm
  obtain rfl : fn = Tryd.f6 := (Option.some.inj (Tryd.func6.symm.trans hfn)).symm
  refine ⟨by kernel_rfl, fun j t ht => ?_⟩
  rw [Tryd.params6] at ht
  have hm := Array.mem_of_getElem? ht
  simp at hm
  rcases hm with rfl | rfl
  all_goals first | exact (show Tryd.prog.wantsStandIn 3 = false by kernel_rfl) | exact (show Tryd.prog.wantsStandIn 24 = false by kernel_rfl)

/-- The statement. -/
theorem proved : Rows.WideShiftsCardSaid :=
  Claim7.holds_tied_plain_at .later [] _ _ _ _ said (fun _ h => by cases h) (by kernel_rfl) (fun _ h => by cases h) wideShifts_row_tie rfl ⟨rfl, rfl⟩ (by kernel_rfl) rfl plain (by kernel_rfl)
#print axioms proved
end Go.Proofs.YtijghhecclaafaaDoor.wideShifts
