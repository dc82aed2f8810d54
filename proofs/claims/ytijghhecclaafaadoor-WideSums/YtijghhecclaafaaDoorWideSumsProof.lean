/-
  Sums, differences, and which one is greater, of any two numbers, are as the document says. Conditions: none.
-/
import Derived.Test.YtijghhecclaafaaDoorCards
import Derived.Test.YtijghhecclaafaaDoorTie
import Derived.Test.YtijghhecclaafaaDoorLaid
import Derived.Test.YtijghhecclaafaaDoorV16
import Derived.Test.YtijghhecclaafaaDoorArrOpenW
import Derived.Test.YtijghhecclaafaaDoorLW0
import Derived.WalkKit
import Derived.ProofKit
import Derived.OpenShut
import Derived.ShutString
import Derived.ChangeOld
import Derived.Below
import Derived.Deep.DeepHandedRow
namespace Go.Proofs.YtijghhecclaafaaDoor.wideSums
open Go.ChangeShapes Go.WideShapes Go.ChangeAt Go.RowKit
open Go.ChangeMaps (open_string shut_string)
set_option linter.unusedVariables false

theorem own : ownKnob Tryd.prog.godebug = none := by kernel_rfl
theorem laidOut : laidOutB Tryd.prog = true := by kernel_rfl

set_option maxRecDepth 20000 in
set_option maxHeartbeats 8000000 in
/-- The walk. -/
theorem walk (l0 : Nat) (l1 : Nat) (w : World) (e0 : l0 < M) (e1 : l1 < M) (ht : Facts w) :
    Calls Tryd.prog 3 #[wv l0, wv l1] w fun e w' => e = .returned (.bool true) ∧ Below w.heap.size w w' := by
  have HT : Hid (Tb w) := ht
  obtain ⟨a, rfl⟩ : ∃ x, x = l0 := ⟨_, rfl⟩
  obtain ⟨b, rfl⟩ : ∃ x, x = l1 := ⟨_, rfl⟩
  have HAl : Hid (∀ w', Below w.heap.size w w' → Calls Tryd.prog 15 #[] w' fun e w'' => e = .returned (.bool true) ∧ Below w'.heap.size w' w'') := fun w' hb => alive_any w' (HT.out.gr hb)
  obtain ⟨s, es⟩ : ∃ x, (a + b) % M = x := ⟨_, rfl⟩
  obtain ⟨c, ec⟩ : ∃ x, (a + b) / M = x := ⟨_, rfl⟩
  obtain ⟨z, ez⟩ : ∃ x, (a + M - b) % M = x := ⟨_, rfl⟩
  obtain ⟨f, ef⟩ : ∃ x : Nat, (if a < b then 1 else 0) = x := ⟨_, rfl⟩
  obtain ⟨cc, ecc⟩ : ∃ x : Int, cmpN a b = x := ⟨_, rfl⟩
  obtain ⟨ll, ell⟩ : ∃ x, blen a = x := ⟨_, rfl⟩
  obtain ⟨x, ex⟩ : ∃ x, gw (w4 a) 0 = x := ⟨_, rfl⟩
  have Ls : Hid (s < M) := by show _ < _; rw [← es]; exact Nat.mod_lt _ (by decide)
  have Lz : Hid (z < M) := by show _ < _; rw [← ez]; exact Nat.mod_lt _ (by decide)
  have Ex : Hid (gw (w4 a) 0 = x) := ex
  have Lx : Hid (x < 18446744073709551616) := ex ▸ gw_lt a 0
  have LxM : Hid (x < M) := by have := Lx.out; show _ < _; unfold M; omega
  have H1 : Hid (∀ w, Calls Tryd.prog 11 #[wv a, wv b] w fun e w' => e = .returned ((.tuple #[wv s, .int .u64 (c : Nat)])) ∧ Below w.heap.size w w') := fun w => by have := add_any a b e0 e1 w; rw [es, ec] at this; exact this
  have H2 : Hid (∀ w, Calls Tryd.prog 12 #[wv a, wv b] w fun e w' => e = .returned ((.tuple #[wv s, .int .u64 (c : Nat)])) ∧ Below w.heap.size w w') := fun w => by have := radd_any a b e0 e1 w; rw [es, ec] at this; exact this
  have H3 : Hid (∀ w, Calls Tryd.prog 13 #[wv a, wv b] w fun e w' => e = .returned ((.tuple #[wv z, .int .u64 (f : Nat)])) ∧ Below w.heap.size w w') := fun w => by have := sub_any a b e0 e1 w; rw [ez, ef] at this; exact this
  have H4 : Hid (∀ w, Calls Tryd.prog 14 #[wv a, wv b] w fun e w' => e = .returned ((.tuple #[wv z, .int .u64 (f : Nat)])) ∧ Below w.heap.size w w') := fun w => by have := rsub_any a b e0 e1 w; rw [ez, ef] at this; exact this
  have H5 : Hid (∀ w, Calls Tryd.prog 16 #[wv a, wv b] w fun e w' => e = .returned (.int .i64 cc) ∧ Below w.heap.size w w') := fun w => by have := cmp_any a b e0 e1 w; rw [ecc] at this; exact this
  have H6 : Hid (∀ w, Calls Tryd.prog 17 #[wv a, wv b] w fun e w' => e = .returned (.int .i64 cc) ∧ Below w.heap.size w w') := fun w => by have := rcmp_any a b e0 e1 w; rw [ecc] at this; exact this
  have H7 : Hid (∀ w, Calls Tryd.prog 18 #[wv a] w fun e w' => e = .returned (.int .i64 (ll : Nat)) ∧ Below w.heap.size w w') := fun w => by have := len_any a e0 w; rw [ell] at this; exact this
  have H8 : Hid (∀ w, Calls Tryd.prog 19 #[wv a] w fun e w' => e = .returned (.int .i64 (ll : Nat)) ∧ Below w.heap.size w w') := fun w => by have := rlen_any a e0 w; rw [ell] at this; exact this
  have H9 : Hid (∀ w, Calls Tryd.prog 20 #[.int .u64 (x : Int)] w fun e w' => e = .returned (wv x) ∧ Below w.heap.size w w') := fun w => from_any x Lx.out w
  clear es ec ez ef ecc ell ex e0 e1 ht
  have m := Mem.start w
  go_enter Tryd.func3, Tryd.ntmps3
  go_wp2_with ((first
    | (refine W.box m rfl (.tmp 0) rfl a rfl ?_; clear m; intro g2 wx2 m)
    | (refine W.box m rfl (.tmp 1) rfl b rfl ?_; clear m; intro g3 wx3 m)
    | (refine W.load m rfl (.tmp 2) rfl 1 rfl rfl ?_)
    | (refine W.load m rfl (.tmp 3) rfl 0 rfl rfl ?_)
    | (go_at_call 11; refine (H1.out _).mono ?_; rintro e wx16 ⟨rfl, b16⟩; replace m := m.gr b16; clear b16 H1)
    | (refine W.alloc m rfl rfl 5 rfl ?_; clear m; intro g5 wx5 m)
    | (refine W.store m rfl (.tmp 5) (.tmp 17) rfl rfl 0 s rfl (w4_length _) rfl rfl ?_; clear m; intro wx101 m)
    | (refine W.load m rfl (.tmp 2) rfl 2 rfl rfl ?_)
    | (refine W.load m rfl (.tmp 3) rfl 1 rfl rfl ?_)
    | (go_at_call 12; refine (H2.out _).mono ?_; rintro e wx22 ⟨rfl, b22⟩; replace m := m.gr b22; clear b22 H2)
    | (refine W.alloc m rfl rfl 7 rfl ?_; clear m; intro g7 wx7 m)
    | (refine W.store m rfl (.tmp 7) (.tmp 23) rfl rfl 0 s rfl (w4_length _) rfl rfl ?_; clear m; intro wx102 m)
    | (refine W.load m rfl (.tmp 2) rfl 3 rfl rfl ?_)
    | (refine W.load m rfl (.tmp 3) rfl 2 rfl rfl ?_)
    | (go_at_call 13; refine (H3.out _).mono ?_; rintro e wx28 ⟨rfl, b28⟩; replace m := m.gr b28; clear b28 H3)
    | (refine W.alloc m rfl rfl 9 rfl ?_; clear m; intro g9 wx9 m)
    | (refine W.store m rfl (.tmp 9) (.tmp 29) rfl rfl 0 z rfl (w4_length _) rfl rfl ?_; clear m; intro wx103 m)
    | (refine W.load m rfl (.tmp 2) rfl 4 rfl rfl ?_)
    | (refine W.load m rfl (.tmp 3) rfl 3 rfl rfl ?_)
    | (go_at_call 14; refine (H4.out _).mono ?_; rintro e wx34 ⟨rfl, b34⟩; replace m := m.gr b34; clear b34 H4)
    | (refine W.alloc m rfl rfl 11 rfl ?_; clear m; intro g11 wx11 m)
    | (refine W.store m rfl (.tmp 11) (.tmp 35) rfl rfl 0 z rfl (w4_length _) rfl rfl ?_; clear m; intro wx104 m)); try simp only [Act.put, List.setIfInBounds_toArray, List.set_cons_succ, List.set_cons_zero])
  have F := N_fit 24 wx104 (c64 (w4 0)) (c64 (w4 0)) (fun f _ v _ => (f = 15 → v = .bool true) ∧ (f = 16 → v = .int .i64 cc) ∧ (f = 17 → v = .int .i64 cc) ∧ (f = 18 → v = .int .i64 (ll : Nat)) ∧ (f = 19 → v = .int .i64 (ll : Nat)) ∧ (f = 20 → v = wv x)) (fun _ _ _ _ _ h => h)
  refine Mild2.wp_region F (by kernel_rfl) (by kernel_rfl) (Vw.draw _) ?_
  refine Mild2.step_callv rfl rfl (15) (#[]) (.bool true) (fun w => by go_simp) (fun w0 hC => HAl.out w0 (m.oldM hC).below) (fun _ _ h => Vw.of_gr h) (fun _ => ⟨fun _ => rfl, fun h => absurd h (by decide), fun h => absurd h (by decide), fun h => absurd h (by decide), fun h => absurd h (by decide), fun h => absurd h (by decide)⟩) (fun _ _ h => h.1 rfl) ?_
  simp only [Act.put, List.setIfInBounds_toArray, List.set_cons_succ, List.set_cons_zero]
  iterate 1 (refine Mild2.step_quiet F rfl rfl rfl (fun w0 hC hF K hK => ?_); clear hF; go_big_quiet_op; refine hK _ ?_; clear hK K hC; clear w0)
  refine Mild2.step_known F rfl rfl (wv s) (fun w0 hC _ => W.newload m hC (.tmp 5) rfl 3 rfl rfl) ?_
  simp only [Act.put, List.setIfInBounds_toArray, List.set_cons_succ, List.set_cons_zero]
  refine Mild2.step_known F rfl rfl (wv s) (fun w0 hC _ => W.newload m hC (.tmp 7) rfl 2 rfl rfl) ?_
  simp only [Act.put, List.setIfInBounds_toArray, List.set_cons_succ, List.set_cons_zero]
  refine Mild2.step_known F rfl rfl (.bool true) (fun w0 hC _ => W.exec_eql (.tmp 39) (.tmp 40) _ rfl s s true Ls.out Ls.out (by simp) rfl rfl) ?_
  simp only [Act.put, List.setIfInBounds_toArray, List.set_cons_succ, List.set_cons_zero]
  iterate 1 (refine Mild2.step_quiet F rfl rfl rfl (fun w0 hC hF K hK => ?_); clear hF; go_big_quiet_op; refine hK _ ?_; clear hK K hC; clear w0)
  iterate 1 (refine Mild2.step_quiet F rfl rfl rfl (fun w0 hC hF K hK => ?_); clear hF; go_big_quiet_op; refine hK _ ?_; clear hK K hC; clear w0)
  iterate 1 (refine Mild2.step_quiet F rfl rfl rfl (fun w0 hC hF K hK => ?_); clear hF; go_big_quiet_op; refine hK _ ?_; clear hK K hC; clear w0)
  iterate 1 (refine Mild2.step_quiet F rfl rfl rfl (fun w0 hC hF K hK => ?_); clear hF; go_big_quiet_op; refine hK _ ?_; clear hK K hC; clear w0)
  iterate 1 (refine Mild2.step_quiet F rfl rfl rfl (fun w0 hC hF K hK => ?_); clear hF; go_big_quiet_op; refine hK _ ?_; clear hK K hC; clear w0)
  iterate 1 (refine Mild2.step_quiet F rfl rfl rfl (fun w0 hC hF K hK => ?_); clear hF; go_big_quiet_op; refine hK _ ?_; clear hK K hC; clear w0)
  iterate 1 (refine Mild2.step_quiet F rfl rfl rfl (fun w0 hC hF K hK => ?_); clear hF; go_big_quiet_op; refine hK _ ?_; clear hK K hC; clear w0)
  refine Mild2.step_known F rfl rfl (wv z) (fun w0 hC _ => W.newload m hC (.tmp 9) rfl 1 rfl rfl) ?_
  simp only [Act.put, List.setIfInBounds_toArray, List.set_cons_succ, List.set_cons_zero]
  refine Mild2.step_known F rfl rfl (wv z) (fun w0 hC _ => W.newload m hC (.tmp 11) rfl 0 rfl rfl) ?_
  simp only [Act.put, List.setIfInBounds_toArray, List.set_cons_succ, List.set_cons_zero]
  refine Mild2.step_known F rfl rfl (.bool true) (fun w0 hC _ => W.exec_eql (.tmp 49) (.tmp 50) _ rfl z z true Lz.out Lz.out (by simp) rfl rfl) ?_
  simp only [Act.put, List.setIfInBounds_toArray, List.set_cons_succ, List.set_cons_zero]
  iterate 1 (refine Mild2.step_quiet F rfl rfl rfl (fun w0 hC hF K hK => ?_); clear hF; go_big_quiet_op; refine hK _ ?_; clear hK K hC; clear w0)
  iterate 1 (refine Mild2.step_quiet F rfl rfl rfl (fun w0 hC hF K hK => ?_); clear hF; go_big_quiet_op; refine hK _ ?_; clear hK K hC; clear w0)
  iterate 1 (refine Mild2.step_quiet F rfl rfl rfl (fun w0 hC hF K hK => ?_); clear hF; go_big_quiet_op; refine hK _ ?_; clear hK K hC; clear w0)
  iterate 1 (refine Mild2.step_quiet F rfl rfl rfl (fun w0 hC hF K hK => ?_); clear hF; go_big_quiet_op; refine hK _ ?_; clear hK K hC; clear w0)
  iterate 1 (refine Mild2.step_quiet F rfl rfl rfl (fun w0 hC hF K hK => ?_); clear hF; go_big_quiet_op; refine hK _ ?_; clear hK K hC; clear w0)
  iterate 1 (refine Mild2.step_quiet F rfl rfl rfl (fun w0 hC hF K hK => ?_); clear hF; go_big_quiet_op; refine hK _ ?_; clear hK K hC; clear w0)
  iterate 1 (refine Mild2.step_quiet F rfl rfl rfl (fun w0 hC hF K hK => ?_); clear hF; go_big_quiet_op; refine hK _ ?_; clear hK K hC; clear w0)
  refine Mild2.step_known F rfl rfl (wv a) (fun w0 hC _ => W.newload m hC (.tmp 2) rfl 5 rfl rfl) ?_
  simp only [Act.put, List.setIfInBounds_toArray, List.set_cons_succ, List.set_cons_zero]
  refine Mild2.step_known F rfl rfl (wv b) (fun w0 hC _ => W.newload m hC (.tmp 3) rfl 4 rfl rfl) ?_
  simp only [Act.put, List.setIfInBounds_toArray, List.set_cons_succ, List.set_cons_zero]
  refine Mild2.step_callv rfl rfl (16) (#[wv a, wv b]) (.int .i64 cc) (fun w => by go_simp) (fun w0 hC => H5.out w0) (fun _ _ h => Vw.of_gr h) (fun _ => ⟨fun h => absurd h (by decide), fun _ => rfl, fun h => absurd h (by decide), fun h => absurd h (by decide), fun h => absurd h (by decide), fun h => absurd h (by decide)⟩) (fun _ _ h => h.2.1 rfl) ?_
  simp only [Act.put, List.setIfInBounds_toArray, List.set_cons_succ, List.set_cons_zero]
  refine Mild2.step_known F rfl rfl (wv a) (fun w0 hC _ => W.newload m hC (.tmp 2) rfl 5 rfl rfl) ?_
  simp only [Act.put, List.setIfInBounds_toArray, List.set_cons_succ, List.set_cons_zero]
  refine Mild2.step_known F rfl rfl (wv b) (fun w0 hC _ => W.newload m hC (.tmp 3) rfl 4 rfl rfl) ?_
  simp only [Act.put, List.setIfInBounds_toArray, List.set_cons_succ, List.set_cons_zero]
  refine Mild2.step_callv rfl rfl (17) (#[wv a, wv b]) (.int .i64 cc) (fun w => by go_simp) (fun w0 hC => H6.out w0) (fun _ _ h => Vw.of_gr h) (fun _ => ⟨fun h => absurd h (by decide), fun h => absurd h (by decide), fun _ => rfl, fun h => absurd h (by decide), fun h => absurd h (by decide), fun h => absurd h (by decide)⟩) (fun _ _ h => h.2.2.1 rfl) ?_
  simp only [Act.put, List.setIfInBounds_toArray, List.set_cons_succ, List.set_cons_zero]
  iterate 1 (refine Mild2.step_quiet F rfl rfl rfl (fun w0 hC hF K hK => ?_); clear hF; go_big_quiet_op; refine hK _ ?_; clear hK K hC; clear w0)
  iterate 1 (refine Mild2.step_quiet F rfl rfl rfl (fun w0 hC hF K hK => ?_); clear hF; go_big_quiet_op; refine hK _ ?_; clear hK K hC; clear w0)
  iterate 1 (refine Mild2.step_quiet F rfl rfl rfl (fun w0 hC hF K hK => ?_); clear hF; go_big_quiet_op; refine hK _ ?_; clear hK K hC; clear w0)
  refine Mild2.step_known F rfl rfl (wv a) (fun w0 hC _ => W.newload m hC (.tmp 2) rfl 5 rfl rfl) ?_
  simp only [Act.put, List.setIfInBounds_toArray, List.set_cons_succ, List.set_cons_zero]
  refine Mild2.step_callv rfl rfl (18) (#[wv a]) (.int .i64 (ll : Nat)) (fun w => by go_simp) (fun w0 hC => H7.out w0) (fun _ _ h => Vw.of_gr h) (fun _ => ⟨fun h => absurd h (by decide), fun h => absurd h (by decide), fun h => absurd h (by decide), fun _ => rfl, fun h => absurd h (by decide), fun h => absurd h (by decide)⟩) (fun _ _ h => h.2.2.2.1 rfl) ?_
  simp only [Act.put, List.setIfInBounds_toArray, List.set_cons_succ, List.set_cons_zero]
  refine Mild2.step_known F rfl rfl (wv a) (fun w0 hC _ => W.newload m hC (.tmp 2) rfl 5 rfl rfl) ?_
  simp only [Act.put, List.setIfInBounds_toArray, List.set_cons_succ, List.set_cons_zero]
  refine Mild2.step_callv rfl rfl (19) (#[wv a]) (.int .i64 (ll : Nat)) (fun w => by go_simp) (fun w0 hC => H8.out w0) (fun _ _ h => Vw.of_gr h) (fun _ => ⟨fun h => absurd h (by decide), fun h => absurd h (by decide), fun h => absurd h (by decide), fun h => absurd h (by decide), fun _ => rfl, fun h => absurd h (by decide)⟩) (fun _ _ h => h.2.2.2.2.1 rfl) ?_
  simp only [Act.put, List.setIfInBounds_toArray, List.set_cons_succ, List.set_cons_zero]
  iterate 1 (refine Mild2.step_quiet F rfl rfl rfl (fun w0 hC hF K hK => ?_); clear hF; go_big_quiet_op; refine hK _ ?_; clear hK K hC; clear w0)
  iterate 1 (refine Mild2.step_quiet F rfl rfl rfl (fun w0 hC hF K hK => ?_); clear hF; go_big_quiet_op; refine hK _ ?_; clear hK K hC; clear w0)
  iterate 1 (refine Mild2.step_quiet F rfl rfl rfl (fun w0 hC hF K hK => ?_); clear hF; go_big_quiet_op; refine hK _ ?_; clear hK K hC; clear w0)
  refine Mild2.step_known F rfl rfl (.pointer (some ⟨g2, 0, none⟩)) (fun w0 hC _ => W.xidx (.tmp 2) (.const (.int .i64 0)) rfl g2 0 .i64 0 rfl (by decide) rfl rfl) ?_
  simp only [Act.put, List.setIfInBounds_toArray, List.set_cons_succ, List.set_cons_zero]
  refine Mild2.step_known F rfl rfl (.int .u64 (x : Nat)) (fun w0 hC _ => W.newget m hC (.tmp 75) rfl 5 0 x rfl (by decide) Ex.out rfl) ?_
  simp only [Act.put, List.setIfInBounds_toArray, List.set_cons_succ, List.set_cons_zero]
  refine Mild2.step_callv rfl rfl (20) (#[.int .u64 (x : Int)]) (wv x) (fun w => by go_simp) (fun w0 hC => H9.out w0) (fun _ _ h => Vw.of_gr h) (fun _ => ⟨fun h => absurd h (by decide), fun h => absurd h (by decide), fun h => absurd h (by decide), fun h => absurd h (by decide), fun h => absurd h (by decide), fun _ => rfl⟩) (fun _ _ h => h.2.2.2.2.2 rfl) ?_
  simp only [Act.put, List.setIfInBounds_toArray, List.set_cons_succ, List.set_cons_zero]
  refine Mild2.step_known F rfl rfl (.pointer (some ⟨g2, 0, none⟩)) (fun w0 hC _ => W.xidx (.tmp 2) (.const (.int .i64 0)) rfl g2 0 .i64 0 rfl (by decide) rfl rfl) ?_
  simp only [Act.put, List.setIfInBounds_toArray, List.set_cons_succ, List.set_cons_zero]
  refine Mild2.step_known F rfl rfl (.int .u64 (x : Nat)) (fun w0 hC _ => W.newget m hC (.tmp 78) rfl 5 0 x rfl (by decide) Ex.out rfl) ?_
  simp only [Act.put, List.setIfInBounds_toArray, List.set_cons_succ, List.set_cons_zero]
  refine Mild2.step_known F rfl rfl (wv x) (fun w0 hC _ => W.xbuild1 (.tmp 79) rfl x Lx.out rfl) ?_
  simp only [Act.put, List.setIfInBounds_toArray, List.set_cons_succ, List.set_cons_zero]
  refine Mild2.step_known F rfl rfl (.bool true) (fun w0 hC _ => W.exec_eql (.tmp 77) (.tmp 80) _ rfl x x true LxM.out LxM.out (by simp) rfl rfl) ?_
  simp only [Act.put, List.setIfInBounds_toArray, List.set_cons_succ, List.set_cons_zero]
  iterate 1 (refine Mild2.step_quiet F rfl rfl rfl (fun w0 hC hF K hK => ?_); clear hF; go_big_quiet_op; refine hK _ ?_; clear hK K hC; clear w0)
  iterate 1 (refine Mild2.step_quiet F rfl rfl rfl (fun w0 hC hF K hK => ?_); clear hF; go_big_quiet_op; refine hK _ ?_; clear hK K hC; clear w0)
  intro w8 hw8 hf8
  replace m := m.oldM hw8
  clear hf8 hw8 F
  go_wp2
  go_ret
  exact ⟨rfl, m.below⟩

theorem contract (H : Type) (enc : TypeId × Value → H) (W : World) (base : Nat) (args : Array Value) (ds gs : List (DataW H)) (before : List MemPlace)
    (hval0 : ∀ (j : Nat) t v, Tryd.f3.params[j]? = some t → args[j]? = some v → Value.okWide Tryd.prog W .any base t v)
    (hW : DataW.Whole enc Tryd.prog Tryd.f3.params.toList Rows.wideSumsSpec.vars false W args.toList ds gs before) (hL : laidMetH Tryd.prog Rows.wideSumsRow.laid W) :
    Calls Tryd.prog 3 args W fun e W' => ∃ v, e = .returned v ∧ Rows.wideSumsSpec.post enc Tryd.prog Tryd.f3 false true false false W args v W' := by
  have hval : ∀ (j : Nat) t v, Tryd.f3.params[j]? = some t → args[j]? = some v → Value.okWide Tryd.prog W .any base t v := hval0
  have hW' := hW
  obtain ⟨p, q, hA0, hV, rfl, hfz, hnd⟩ := hW
  have hA : DataW.TrodAll enc Tryd.prog W 0 (fun _ => true) true Tryd.f3.params.toList args.toList ds p := hA0
  rw [Tryd.params3] at hA hval
  obtain ⟨v0, vs0, d0, ds0, p0, q0, hargs, rfl, rfl, h0, r0⟩ := trodAll_cons hA
  obtain ⟨v1, vs1, d1, ds1, p1, q1, rfl, rfl, rfl, h1, r1⟩ := trodAll_cons r0
  obtain ⟨rfl, rfl, rfl⟩ := trodAll_nil r1
  obtain rfl : args = #[v0, v1] := by cases args; simp_all
  obtain ⟨rfl, rfl⟩ := trodVars_none hV
  have k0 := h0
  have lt0 : ∀ x ∈ p0, x.block < W.heap.size := by obtain ⟨m, hm⟩ := k0; exact DataW.trod_lt m _ _ _ hm
  obtain ⟨l0, e0, rfl⟩ := open_wide (hval 0 24 v0 rfl rfl) h0
  have k1 := h1
  have lt1 : ∀ x ∈ p1, x.block < W.heap.size := by obtain ⟨m, hm⟩ := k1; exact DataW.trod_lt m _ _ _ hm
  obtain ⟨l1, e1, rfl⟩ := open_wide (hval 1 24 v1 rfl rfl) h1
  clear hA0 hval0
  refine (walk l0 l1 W e0 e1 (facts_of hL)).mono fun e W' ⟨he, bel⟩ => ?_
  subst he
  exact ⟨_, rfl, _, _, _, [], _, [], hW', trodAll_mk1 (shut_bool Tryd.underlying4 _), (trodAll_cons_mk (Below.trod laidOut (by kernel_rfl) (of_decide_eq_true (by kernel_rfl)) k0 bel lt0) (trodAll_cons_mk (Below.trod laidOut (by kernel_rfl) (of_decide_eq_true (by kernel_rfl)) k1 bel lt1) trodAll_mk0)), rfl, bel.frame _, fun h => by cases h⟩

theorem laid_met (os : Os) : laidMet Tryd.prog Rows.wideSumsRow.laid ((laidWorld os).forCall (fun _ _ => 0) ⟨#[], #[.agg #[.int .u64 0, .int .u64 0, .int .u64 0, .int .u64 0], .agg #[.int .u64 0, .int .u64 0, .int .u64 0, .int .u64 0]], []⟩).memory :=
  laidMet_of_run' 8 (by kernel_rfl) (by kernel_rfl)
theorem reads (os : Os) {H : Type} (enc : TypeId × Value → H) : ∃ places, DataW.whole enc Tryd.prog ((laidWorld os).forCall (fun _ _ => 0) ⟨#[], #[.agg #[.int .u64 0, .int .u64 0, .int .u64 0, .int .u64 0], .agg #[.int .u64 0, .int .u64 0, .int .u64 0, .int .u64 0]], []⟩).memory Tryd.f3.params.toList Rows.wideSumsSpec.vars false (#[.agg #[.int .u64 0, .int .u64 0, .int .u64 0, .int .u64 0], .agg #[.int .u64 0, .int .u64 0, .int .u64 0, .int .u64 0]] : Array Value).toList 8 = some ([.agg [.lit (.int .u64 0), .lit (.int .u64 0), .lit (.int .u64 0), .lit (.int .u64 0)], .agg [.lit (.int .u64 0), .lit (.int .u64 0), .lit (.int .u64 0), .lit (.int .u64 0)]], [], places) :=
  ⟨[], by kernel_rfl⟩

set_option maxRecDepth 100000 in
theorem lifted (os : Os) (started : os.Started) (H : Type) (enc : TypeId × Value → H) (F : Stop.Interp) :
    ReturnsInHanded {} Tryd.checked os 3 .any ((OpenSpec.ofChange Rows.wideSumsSpec).preRow enc Tryd.prog Tryd.f3 Rows.wideSumsRow.domain false Rows.wideSumsRow.laid) (((OpenSpec.ofChange Rows.wideSumsSpec).at F).post enc Tryd.prog Tryd.f3 false true false false) := by
  obtain ⟨places, hx⟩ := reads os enc
  refine returnsInHanded_of_row (C := Tryd.checked) (s := OpenSpec.ofChange Rows.wideSumsSpec) own started (by kernel_rfl) Tryd.func3
    (witness_row_at (enc := enc) (C := Tryd.checked) false (laidWorld os) #[.agg #[.int .u64 0, .int .u64 0, .int .u64 0, .int .u64 0], .agg #[.int .u64 0, .int .u64 0, .int .u64 0, .int .u64 0]] rfl (by kernel_rfl) (by kernel_rfl) (by kernel_rfl)
      (OpenSpec.preRow_of_cond 8 hx (by kernel_rfl) (fun k hk => by cases hk) (by kernel_rfl) (laid_met os))) ?_
  intro W base args ds gs before hval hW _ _ _ hL _ _
  exact contract H enc W base args ds gs before hval hW hL

theorem said : Rows.WideSumsSaid :=
  OpenClaim.holds_of_cond 3 Tryd.f3 rfl rfl rfl rfl rfl rfl rfl ⟨rfl, rfl, rfl, rfl, rfl⟩ rfl rfl rfl rfl rfl (by kernel_rfl) Tryd.func3 (by kernel_rfl)
    (of_decide_eq_true (by kernel_rfl)) (by unfold Func.isWrapper; first | (rw [if_pos (by decide +kernel)]; kernel_rfl) | (rw [if_neg (by decide +kernel)]; exact ⟨rfl, rfl⟩))
    (fun os started H enc _ F => by rw [OpenClaim.pre_eq_preRow]; exact lifted os started H enc F)

theorem plain (f : FuncId) (fn : Func) (hf : Tryd.pinned.checked.prog.funcNamed "entail/entaillaw06.WideSums" = some f) (hfn : Tryd.pinned.checked.prog.funcs[f]? = some fn) :
    false = Tryd.pinned.checked.prog.looks [] ∧ ∀ (j : Nat) t, fn.params[j]? = some t → Tryd.pinned.checked.prog.wantsStandIn t = false := by
  obtain rfl : f = 3 := Option.some.inj ((show Tryd.prog.funcNamed "entail/entaillaw06.WideSums" = some 3 by kernel_rfl).symm.trans hf) |>.symm
  obtain rfl : fn = Tryd.f3 := (Option.some.inj (Tryd.func3.symm.trans hfn)).symm
  refine ⟨by kernel_rfl, fun j t ht => ?_⟩
  rw [Tryd.params3] at ht
  have hm := Array.mem_of_getElem? ht
  simp at hm
  rcases hm with rfl
  all_goals first | exact (show Tryd.prog.wantsStandIn 24 = false by kernel_rfl)

/-- The statement. -/
theorem proved : Rows.WideSumsCardSaid :=
  Claim7.holds_tied_plain_at .later [] _ _ _ _ said (fun _ h => by cases h) (by kernel_rfl) (fun _ h => by cases h) wideSums_row_tie rfl ⟨rfl, rfl⟩ (by kernel_rfl) rfl plain (by kernel_rfl)
#print axioms proved
end Go.Proofs.YtijghhecclaafaaDoor.wideSums
