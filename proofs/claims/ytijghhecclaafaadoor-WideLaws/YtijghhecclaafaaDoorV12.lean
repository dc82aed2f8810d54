/-
  Contract of package wide's Print, of a small number; the laws' live question.
-/
import Derived.Test.YtijghhecclaafaaDoorV11
import Derived.Test.YtijghhecclaafaaDoorFmt
import Derived.Test.YtijghhecclaafaaDoorTxt
namespace Go.Proofs.YtijghhecclaafaaDoor
open Go.RowKit

theorem tx_nil (T : ByteArray) : T ++ (⟨#[]⟩ : ByteArray) = T := by
  have h := tx_append (bl T) []
  rw [List.append_nil, ← tx_bl] at h
  exact h
theorem Mem.oldM {w0 w w' : World} {L : List Blk} {T : TypeId} {o n : List Value} (m : Mem w0 w L) (hw : Vw T (VN w.heap.size o n) w w') : Mem w0 w' L :=
  m.gr (hw.below (fun _ _ _ hv => hv.1) (Nat.le_refl _))
theorem W.xbuild0 {ρ : Operand → Value} {o : Oper} {w : World} (ho : o.op = .build 24 #[]) : (execOp ρ o).run Tryd.prog w = .ok (.value (wv 0)) w := by
  rw [exec_build0 Tryd.aw ho, zeros4]; rfl
theorem W.xbuild1 {ρ : Operand → Value} {o : Oper} {w : World} (y0 : Operand) (ho : o.op = .build 24 #[(0, y0)]) (n : Nat) (hn : n < 18446744073709551616) (h0 : ρ y0 = .int .u64 (n : Int)) : (execOp ρ o).run Tryd.prog w = .ok (.value (wv n)) w :=
  exec_build1 Tryd.aw y0 ho (w4 n) n (by simp only [w4_eq, List.cons.injEq, and_true]; omega) h0

set_option maxHeartbeats 1000000 in
set_option maxRecDepth 20000 in
theorem print_small (a : Nat) (ha : a < 1000000000000000000) (w : World) (htab : Tb w) :
    Calls Tryd.prog 37 #[wv a] w fun e w' => e = .returned (.string ⟨(Lib.decDigits a).toArray⟩) ∧ Below w.heap.size w w' := by
  have HT : Hid (Tb w) := htab
  have haM : a < M := by unfold M; omega
  have HA : Hid (a < 18446744073709551616) := by show _ < _; omega
  have HA0 : Hid (gw (w4 a) 0 = a) := by show _ = _; simp only [gw, w4_eq, List.getD_cons_zero]; omega
  have hc : cmpN a 1000000000000000000 = -1 := by unfold cmpN; rw [if_neg (by omega), if_pos ha]
  have HFr : Hid (∀ w, Calls Tryd.prog 20 #[.int .u64 1000000000000000000] w fun e w' => e = .returned (wv 1000000000000000000) ∧ Below w.heap.size w w') := fun w => from_any 1000000000000000000 (by decide) w
  have HC : Hid (∀ w, Calls Tryd.prog 16 #[wv a, wv 1000000000000000000] w fun e w' => e = .returned (.int .i64 (-1)) ∧ Below w.heap.size w w') := fun w => by have := cmp_any a 1000000000000000000 haM (by decide) w; rw [hc] at this; exact this
  obtain ⟨T, HTx⟩ : ∃ S : ByteArray, Hid (S = ⟨(Lib.decDigits a).toArray⟩) := ⟨_, rfl⟩
  have hsz : T.size ≤ 100 := by
    rw [HTx.out, tx_size, Lib.decDigits_length]
    by_cases h1 : 1 ≤ a
    · have := Lib.numDigits_eq a h1 HA.out; split at this <;> omega
    · rw [Lib.nDigits_small (by omega)]; omega
  rw [← HTx.out]
  clear htab ha hc haM
  have m := Mem.start w
  go_enter Tryd.func37, Tryd.ntmps37
  go_wp2_with ((first
    | (refine W.box m rfl (.tmp 0) rfl a rfl ?_; clear m; intro g1 wx1 m)); try simp only [Act.put, List.setIfInBounds_toArray, List.set_cons_succ, List.set_cons_zero])
  have F := N_fit 24 wx1 (c64 (w4 0)) (c64 (w4 0)) (fun f _ v _ => (f = 20 → v = wv 1000000000000000000) ∧ (f = 16 → v = .int .i64 (-1))) (fun _ _ _ _ _ h => h)
  go_loopw [3] (fun s wr => s = .string ⟨#[]⟩ ∧ Mem w wr [⟨g1, 24, c64 (w4 a)⟩]) (fun _ _ => 0)
  case atStart => exact ⟨rfl, m⟩
  case round =>
    clear m F
    obtain ⟨rfl, m⟩ := hrel
    have F := N_fit 24 wr (c64 (w4 0)) (c64 (w4 0)) (fun f _ v _ => (f = 20 → v = wv 1000000000000000000) ∧ (f = 16 → v = .int .i64 (-1))) (fun _ _ _ _ _ h => h)
    go_wp2
    refine Mild2.wp_region F (by kernel_rfl) (by kernel_rfl) (Vw.draw _) ?_
    refine Mild2.step_known F rfl rfl (wv a) (fun w0 hC _ => W.newload m hC (.tmp 1) rfl 0 rfl rfl) ?_
    simp only [Act.put, List.setIfInBounds_toArray, List.set_cons_succ, List.set_cons_zero]
    refine Mild2.step_callv rfl rfl (20) (#[.int .u64 1000000000000000000]) (wv 1000000000000000000) (fun w => by go_simp) (fun w0 hC => HFr.out w0) (fun _ _ h => Vw.of_gr h) (fun _ => ⟨fun _ => rfl, fun h => absurd h (by decide)⟩) (fun _ _ h => h.1 rfl) ?_
    simp only [Act.put, List.setIfInBounds_toArray, List.set_cons_succ, List.set_cons_zero]
    refine Mild2.step_callv rfl rfl (16) (#[wv a, wv 1000000000000000000]) (.int .i64 (-1)) (fun w => by go_simp) (fun w0 hC => HC.out w0) (fun _ _ h => Vw.of_gr h) (fun _ => ⟨fun h => absurd h (by decide), fun _ => rfl⟩) (fun _ _ h => h.2 rfl) ?_
    simp only [Act.put, List.setIfInBounds_toArray, List.set_cons_succ, List.set_cons_zero]
    iterate 1 (refine Mild2.step_quiet F rfl rfl rfl (fun w0 hC hF K hK => ?_); clear hF; go_big_quiet_op; refine hK _ ?_; clear hK K hC; clear w0)
    intro w8 hw8 hf8
    replace m := m.oldM hw8
    clear hf8 hw8 F
    have HF : Hid (∀ w', Below w.heap.size w w' → Calls Tryd.prog 50 #[.int .u64 (a : Int), .int .i64 10] w' fun e w'' => e = .returned (.string T) ∧ Below w'.heap.size w' w'') := fun w' hb => by have := fmt_any a HA.out w' (HT.out.gr hb); rw [← HTx.out] at this; exact this
    go_wp2_with ((first
      | (refine W.idx rfl (.tmp 1) (.const (.int .i64 0)) rfl g1 0 .i64 0 rfl (by decide) rfl rfl ?_)
      | (refine W.get m rfl (.tmp 25) rfl 0 0 a rfl (by decide) HA0.out rfl ?_)
      | (go_at_call 50; refine (HF.out _ m.below).mono ?_; rintro e wx27 ⟨rfl, b27⟩; replace m := m.gr b27; clear b27)); try simp only [Act.put, List.setIfInBounds_toArray, List.set_cons_succ, List.set_cons_zero])
    go_ret
    exact ⟨congrArg (fun x => Ending.returned (Value.string x)) (tx_nil T), m.below⟩

theorem live_len : blen 4 = 3 := by decide
theorem live_fig : Lib.decDigits 10 = [49, 48] := by simp [Lib.decDigits]

set_option maxHeartbeats 1000000 in
set_option maxRecDepth 20000 in
theorem alive_any (w : World) (htab : Tb w) :
    Calls Tryd.prog 15 #[] w fun e w' => e = .returned (.bool true) ∧ Below w.heap.size w w' := by
  have HD : Hid (∀ w, Calls Tryd.prog 23 #[wv 7, wv 2] w fun e w' => e = .returned ((.tuple #[wv 3, wv 1, .int .i64 0])) ∧ Below w.heap.size w w') := fun w => div_any 7 2 (by decide) (by decide) w
  have HAd : Hid (∀ w, Calls Tryd.prog 11 #[wv 115792089237316195423570985008687907853269984665640564039457584007913129639935, wv 1] w fun e w' => e = .returned ((.tuple #[wv 0, .int .u64 1])) ∧ Below w.heap.size w w') := fun w => add_any 115792089237316195423570985008687907853269984665640564039457584007913129639935 1 (by decide) (by decide) w
  have HL : Hid (∀ w, Calls Tryd.prog 18 #[wv 4] w fun e w' => e = .returned (.int .i64 3) ∧ Below w.heap.size w w') := fun w => by have := len_any 4 (by decide) w; rw [live_len] at this; exact this
  have HP : Hid (∀ w', Below w.heap.size w w' → Calls Tryd.prog 37 #[wv 10] w' fun e w'' => e = .returned (.string ⟨#[49, 48]⟩) ∧ Below w'.heap.size w' w'') := fun w' hb => by
    have := print_small 10 (by decide) w' (htab.gr hb); rw [live_fig] at this; exact this
  clear htab
  have m := Mem.start w
  go_enter Tryd.func15, Tryd.ntmps15
  go_wp2_with ((first
    | (refine W.build1 rfl (.const (.int .u64 7)) rfl 7 (by decide) rfl ?_)
    | (refine W.build1 rfl (.const (.int .u64 2)) rfl 2 (by decide) rfl ?_)
    | (go_at_call 23; refine (HD.out _).mono ?_; rintro e wx9 ⟨rfl, b9⟩; replace m := m.gr b9; clear b9)
    | (refine W.alloc m rfl rfl 1 rfl ?_; clear m; intro g1 wx1 m)
    | (refine W.alloc m rfl rfl 2 rfl ?_; clear m; intro g2 wx2 m)
    | (refine W.store m rfl (.tmp 1) (.tmp 10) rfl rfl 1 3 rfl (w4_length _) rfl rfl ?_; clear m; intro wx101 m)
    | (refine W.store m rfl (.tmp 2) (.tmp 11) rfl rfl 0 1 rfl (w4_length _) rfl rfl ?_; clear m; intro wx102 m)
    | (refine W.build4 rfl (.const (.int .u64 18446744073709551615)) (.const (.int .u64 18446744073709551615)) (.const (.int .u64 18446744073709551615)) (.const (.int .u64 18446744073709551615)) rfl 115792089237316195423570985008687907853269984665640564039457584007913129639935 18446744073709551615 18446744073709551615 18446744073709551615 18446744073709551615 (by rw [w4_eq]) rfl rfl rfl rfl ?_)
    | (refine W.build1 rfl (.const (.int .u64 1)) rfl 1 (by decide) rfl ?_)
    | (go_at_call 11; refine (HAd.out _).mono ?_; rintro e wx16 ⟨rfl, b16⟩; replace m := m.gr b16; clear b16)
    | (refine W.alloc m rfl rfl 4 rfl ?_; clear m; intro g4 wx4 m)
    | (refine W.store m rfl (.tmp 4) (.tmp 17) rfl rfl 0 0 rfl (w4_length _) rfl rfl ?_; clear m; intro wx103 m)
    | (refine W.load m rfl (.tmp 1) rfl 2 rfl rfl ?_)
    | (refine W.build1 rfl (.const (.int .u64 3)) rfl 3 (by decide) rfl ?_)
    | (refine W.eql rfl (.tmp 19) (.tmp 20) _ rfl 3 3 true (by decide) (by decide) (by decide) rfl rfl ?_)
    | (refine wpList_valG rfl (wv 1) (W.xload m (Gr.refl _) (.tmp 2) rfl 1 rfl rfl) ?_)
    | (refine wpList_valG rfl (wv 1) (W.xbuild1 (.const (.int .u64 1)) rfl 1 (by decide) rfl) ?_)
    | (refine wpList_valG rfl (.bool true) (W.exec_eql (.tmp 23) (.tmp 24) _ rfl 1 1 true (by decide) (by decide) (by decide) rfl rfl) ?_)
    | (refine wpList_valG rfl (wv 0) (W.xload m (Gr.refl _) (.tmp 4) rfl 0 rfl rfl) ?_)
    | (refine wpList_valG rfl (wv 0) (W.xbuild0 rfl) ?_)
    | (refine wpList_valG rfl (.bool true) (W.exec_eql (.tmp 32) (.tmp 33) _ rfl 0 0 true (by decide) (by decide) (by decide) rfl rfl) ?_)
    | (refine wpList_valG rfl (wv 10) (W.xbuild1 (.const (.int .u64 10)) rfl 10 (by decide) rfl) ?_)
    | (go_at_call 37; refine (HP.out _ (m.below)).mono ?_; rintro e wx42 ⟨rfl, b42⟩; replace m := m.gr b42; clear b42)
    | (refine wpList_valG rfl (wv 4) (W.xbuild1 (.const (.int .u64 4)) rfl 4 (by decide) rfl) ?_)
    | (go_at_call 18; refine (HL.out _).mono ?_; rintro e wx47 ⟨rfl, b47⟩; replace m := m.gr b47; clear b47)); try simp only [Act.put, List.setIfInBounds_toArray, List.set_cons_succ, List.set_cons_zero])
  go_ret
  exact ⟨by simp, m.below⟩
end Go.Proofs.YtijghhecclaafaaDoor
