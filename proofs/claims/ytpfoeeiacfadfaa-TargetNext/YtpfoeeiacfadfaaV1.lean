/-
  Contracts of package wide's From, Add, Sub, Cmp, over the model's words on math/bits' Add64 and Sub64.
  Conditions: numbers below 2^256.
-/
import Derived.Test.YtpfoeeiacfadfaaMild2Z
import Derived.Test.YtpfoeeiacfadfaaWdZ
import Derived.Test.YtpfoeeiacfadfaaShelf
import Derived.WalkKit
import Derived.BigQuiet
namespace Go.Proofs.Ytpfoeeiacfadfaa
open Go.RowKit

theorem Try.aw : AT Try.prog 24 22 4 (.int .u64 0) := ⟨by kernel_rfl, by kernel_rfl, by kernel_rfl, by kernel_rfl⟩
theorem Try.u64 : Try.prog.underlying 22 = some (.int .u64) := by kernel_rfl
theorem Try.one64 : (Try.prog.info? 22).map (·.size) = some 1 := by kernel_rfl
theorem Try.eqw : Try.prog.eqGuardType Try.prog.depth 24 = false := by kernel_rfl
/-- A number, as the program holds it. -/
def wv (n : Nat) : Value := .agg (c64 (w4 n)).toArray
theorem zeros4 : List.replicate 4 (Value.int .u64 0) = c64 (w4 0) := by rw [w4_eq]; rfl
theorem wl (n : Nat) : (c64 (w4 n)).length = 4 := by rw [c64_length]; exact w4_length n
theorem w4_zero : w4 0 = [0, 0, 0, 0] := by rw [w4_eq]
theorem zeros4' : List.replicate 4 (Value.int .u64 0) = c64 [0, 0, 0, 0] := rfl

theorem c64_gw {l : List Nat} {i : Nat} (h : i < l.length) : (c64 l)[i]? = some (.int .u64 (gw l i : Nat)) := by simp [c64, gw, List.getD, h]
theorem c64_set (l : List Nat) (i n : Nat) : (c64 l).set i (.int .u64 (n : Int)) = c64 (l.set i n) := by simp [c64, List.map_set]

theorem add64_any (x y c : Nat) (hc : c ≤ 1) (w : World) : (callFunc 69 #[.int .u64 x, .int .u64 y, .int .u64 c]).run Try.prog w =
    .ok (.value (.tuple #[.int .u64 (((x + y + c) % 18446744073709551616 : Nat) : Int), .int .u64 (((x + y + c) / 18446744073709551616 : Nat) : Int)])) w := by
  rw [run_callFunc_extern Try.func69 (by kernel_rfl) (by kernel_rfl) (by kernel_rfl) (e := add64Entry) (by kernel_rfl), run_add64 x y c (by omega) (by omega) (by omega) (by omega)]
  simp only [Result.andThen]
  congr 5 <;> omega
theorem sub64_any (x y b : Nat) (hb : b ≤ 1) (w : World) : (callFunc 67 #[.int .u64 x, .int .u64 y, .int .u64 b]).run Try.prog w =
    .ok (.value (.tuple #[.int .u64 (((x + 18446744073709551616 - y - b) % 18446744073709551616 : Nat) : Int), .int .u64 ((if x < y + b then 1 else 0 : Nat) : Int)])) w := by
  rw [run_callFunc_extern Try.func67 (by kernel_rfl) (by kernel_rfl) (by kernel_rfl) (e := sub64Entry) (by kernel_rfl), run_sub64 x y b hb]
  rfl

theorem add64_at (x y c s d : Nat) (hc : c ≤ 1) (hs : (x + y + c) % 18446744073709551616 = s) (hd : (x + y + c) / 18446744073709551616 = d) (w : World) : (callFunc 69 #[.int .u64 x, .int .u64 y, .int .u64 c]).run Try.prog w = .ok (.value (.tuple #[.int .u64 s, .int .u64 d])) w := by
  subst hs hd; exact add64_any x y c hc w
theorem sub64_at (x y c s d : Nat) (hc : c ≤ 1) (hs : (x + 18446744073709551616 - y - c) % 18446744073709551616 = s) (hd : (if x < y + c then 1 else 0) = d) (w : World) : (callFunc 67 #[.int .u64 x, .int .u64 y, .int .u64 c]).run Try.prog w = .ok (.value (.tuple #[.int .u64 s, .int .u64 d])) w := by
  subst hs hd; exact sub64_any x y c hc w
theorem exec_callf {P : Program} {ρ : Operand → Value} {o : Oper} {w : World} (f : FuncId) (args : List Operand) (ts : Array TypeId) (ho : o.op = .call { callee := .value (.func f), args := args.toArray, argTypes := ts }) (hf : ρ (.func f) = .func (.func f) #[] #[]) (vs : List Value) (hv : args.map ρ = vs) (v : Value)
    (h : (callFunc f vs.toArray).run P w = .ok (.value v) w) : (execOp ρ o).run P w = .ok (.value v) w := by
  unfold execOp
  simp only [ho, resolve, hf, List.map_toArray, hv, Deferred.ofValue, invoke, Sem.run_bind, Sem.run_pure, Result.andThen_ok, Array.empty_append, Array.append_empty, h]

/-- One block turns. -/
def V1 (g : Nat) (o n : List Value) : Nat → List Value → List Value → Prop := fun k cs ds => k = g ∧ cs = o ∧ ds = n
theorem V1_trans {g : Nat} {o n : List Value} : ∀ k a b c, V1 g o n k a b → V1 g o n k b c → V1 g o n k a c := by
  rintro k a b c ⟨rfl, rfl, rfl⟩ ⟨_, _, rfl⟩; exact ⟨rfl, rfl, rfl⟩
theorem V1_fit (T : TypeId) (g : Nat) (o n : List Value) (w0 : World) (K0 : FuncId → Array Value → Value → World → Prop) (hK : ∀ f args v w w', K0 f args v w → K0 f args v w') : Mild2.Fit (Vw T (V1 g o n)) (Vw T (V1 g o n) w0) K0 where
  refl := Vw.refl
  trans := fun _ _ _ => Vw.trans V1_trans
  inC := fun _ _ => Vw.trans V1_trans
  keep := fun _ _ _ _ _ h _ => hK _ _ _ _ _ h
theorem Vw.keep1 {T S : TypeId} {g k : Nat} {o n cs : List Value} {w w' : World} (h : Vw T (V1 g o n) w w') (hr : Arr S w k cs) (hk : k ≠ g) : Arr S w' k cs := h.keep hr (fun _ _ hv => hk hv.1)
theorem Vw.turn1 {T : TypeId} {g : Nat} {o n : List Value} {w w' : World} (h : Vw T (V1 g o n) w w') (hr : Arr T w g o) : Arr T w' g o ∨ Arr T w' g n := by
  rcases h.turn hr with h1 | ⟨ds, hv, h1⟩
  · exact .inl h1
  · obtain ⟨_, _, rfl⟩ := hv; exact .inr h1
theorem Vw.new1 {T : TypeId} {g : Nat} {o n : List Value} : Mild2.Stab (Vw T (V1 g o n)) (fun w => Arr T w g n) := by
  intro w w' h hr
  rcases h.turn hr with h1 | ⟨ds, hv, h1⟩
  · exact h1
  · obtain ⟨_, _, rfl⟩ := hv; exact h1
theorem Vw.draw {T : TypeId} {V : Nat → List Value → List Value → Prop} (w : World) : Vw T V w { w with drawn := w.drawn + 1 } := .of_gr (Below.drewN' _ _ 1)
/-- A cell of the block that turns is written. -/
theorem store_cell1 {P : Program} {T : TypeId} {g i : Nat} {o n : List Value} {w0 w : World} (hC : Vw T (V1 g o n) w0 w) (h0 : Arr T w0 g o) (u : Value) (hn : n = o.set i u) (hi : i < o.length) (h1 : u.oneCell' = true) {ρ : Operand → Value} {op : Oper} (F : TypeId) (x y : Operand) (ho : op.op = .store F x y) (hF : (P.info? F).map (·.size) = some 1)
    (hx : ρ x = .pointer (some ⟨g, i, none⟩)) (hy : ρ y = u) : ∃ w2, (execOp ρ op).run P w = .ok .skip w2 ∧ Vw T (V1 g o n) w w2 ∧ Arr T w2 g n := by
  rcases hC.turn1 h0 with hr | hr
  · have h := exec_store_cell F x y ho hF g i o u hi h1 hx hy T hr
    rw [← hn] at h
    exact ⟨_, h.1, Vw.row hr h.2 ⟨rfl, rfl, rfl⟩, h.2⟩
  · have h := exec_store_cell F x y ho hF g i n u (by rw [hn]; simpa using hi) h1 hx hy T hr
    have e : n.set i u = n := by rw [hn]; simp
    rw [e] at h
    exact ⟨_, h.1, Vw.row_same hr h.2, h.2⟩
theorem from_any (n : Nat) (hn : n < 18446744073709551616) (w : World) :
    Calls Try.prog 49 #[.int .u64 (n : Int)] w fun e w' => e = .returned (wv n) ∧ Below w.heap.size w w' := by
  have e : w4 n = [n, 0, 0, 0] := by simp only [w4_eq, List.cons.injEq, and_true]; omega
  have H : Hid (e = e) := rfl
  unfold wv
  rw [e]
  clear H hn
  go_enter Try.func49, Try.ntmps49
  go_wp2_with (first
    | (refine wpList_alloc_arr Try.aw rfl rfl 2 rfl ?_; rw [zeros4']; intro g1 w1 hg1 ha1 hb1)
    | (refine wpList_build1 Try.aw rfl (.tmp 3) rfl [n, 0, 0, 0] n rfl rfl ?_)
    | (refine wpList_store_arr Try.aw rfl (.tmp 2) (.tmp 4) rfl rfl g1 _ (c64 [n, 0, 0, 0]) rfl rfl (c64_one _) rfl rfl ha1 ?_; intro w2 ha2 hb2))
  refine bodyPost_ret (results_arr Try.aw Try.results49 _ w2 g1 (c64 [n, 0, 0, 0]) rfl rfl ha2) rfl ⟨rfl, Below.trans hb1 (hb2.below hg1)⟩

set_option maxHeartbeats 1000000 in
theorem add_any (a b : Nat) (ha : a < M) (hb : b < M) (w : World) :
    Calls Try.prog 45 #[wv a, wv b] w fun e w' => e = .returned (.tuple #[wv ((a + b) % M), .int .u64 (((a + b) / M : Nat) : Int)]) ∧ Below w.heap.size w w' := by
  have HA : Hid (addS (w4 a) (w4 b) 4 = (w4 ((a + b) % M), (a + b) / M)) := addS_all a b ha hb
  have HC : Hid (∀ i, (addS (w4 a) (w4 b) i).2 ≤ 1) := addS_carry a b
  have hl : (w4 a).length = 4 := w4_length a
  have hm : (w4 b).length = 4 := w4_length b
  unfold wv
  have e1 : w4 ((a + b) % M) = (addS (w4 a) (w4 b) 4).1 := by rw [HA.out]
  have e2 : (a + b) / M = (addS (w4 a) (w4 b) 4).2 := by rw [HA.out]
  rw [e1, e2]
  clear e1 e2 ha hb
  generalize w4 a = l at *
  generalize w4 b = m at *
  clear HA
  go_enter Try.func45, Try.ntmps45
  go_wp2_with (first
    | (refine wpList_box_arr rfl _ (.tmp 0) rfl (c64 l) rfl ?_; intro g2 w2 hg2 ha2 hb2)
    | (refine wpList_box_arr rfl _ (.tmp 1) rfl (c64 m) rfl ?_; intro g3 w3 hg3 ha3 hb3)
    | (refine wpList_alloc_arr Try.aw rfl rfl 4 rfl ?_; rw [zeros4']; intro g4 w4 hg4 ha4 hb4)
    | (refine wpList_alloc_arr Try.aw rfl rfl 6 rfl ?_; rw [zeros4']; intro g6 w6 hg6 ha6 hb6))
  have n1 : g2 ≠ g6 := by have := ((ha2.gr hb3).gr hb4).lt; omega
  have n2 : g3 ≠ g6 := by have := (ha3.gr hb4).lt; omega
  have n3 : g4 ≠ g6 := by have := ha4.lt; omega
  have k6 : w.heap.size ≤ g6 := by have := hb2.size; have := hb3.size; have := hb4.size; omega
  have k4 : w.heap.size ≤ g4 := by have := hb2.size; have := hb3.size; omega
  have a2 := ((ha2.gr hb3).gr hb4).gr hb6
  have a3 := (ha3.gr hb4).gr hb6
  have a4 := ha4.gr hb6
  have hB : Below w.heap.size w w6 := Gr.trans (Gr.trans (Gr.trans hb2 hb3) hb4) hb6
  clear ha2 ha3 ha4 hb2 hb3 hb4 hb6 hg2 hg3 hg4 hg6
  go_loopw [7, 9] (fun c i wr => ∃ k : Nat, k ≤ 4 ∧ i = .int .i64 k ∧ c = .int .u64 ((addS l m k).2 : Nat) ∧ Arr 24 wr g6 (c64 (addS l m k).1) ∧ Arr 24 wr g2 (c64 l) ∧ Arr 24 wr g3 (c64 m) ∧ Arr 24 wr g4 (c64 [0, 0, 0, 0]) ∧ Below w.heap.size w wr) (fun _ i _ => 4 - (intOf i).toNat)
  case atStart => exact ⟨0, by omega, rfl, rfl, ha6, a2, a3, a4, hB⟩
  case round =>
    obtain ⟨k, hk, rfl, rfl, r6, r2, r3, r4, hb⟩ := hrel
    clear ha6 a2 a3 a4 hB
    have hs4 := addS_length l m k
    by_cases hlt : k < 4
    · have R6 : Hid (Arr 24 wr g6 (c64 (addS l m k).1)) := r6
      have R2 : Hid (Arr 24 wr g2 (c64 l)) := r2
      have R3 : Hid (Arr 24 wr g3 (c64 m)) := r3
      have R4 : Hid (Arr 24 wr g4 (c64 [0, 0, 0, 0])) := r4
      have HB : Hid (Below w.heap.size w wr) := hb
      obtain ⟨s, hs⟩ : ∃ s, (gw l k + gw m k + (addS l m k).2) % 18446744073709551616 = s := ⟨_, rfl⟩
      obtain ⟨c, hc⟩ : ∃ c, (gw l k + gw m k + (addS l m k).2) / 18446744073709551616 = c := ⟨_, rfl⟩
      have HN : Hid (c64 (addS l m (k + 1)).1 = (c64 (addS l m k).1).set k (.int .u64 (s : Nat))) := by rw [c64_set, ← hs]; exact rfl
      have HS : Hid (c = (addS l m (k + 1)).2) := hc.symm
      have XS : Hid ((gw l k + gw m k + (addS l m k).2) % 18446744073709551616 = s) := hs
      have XC : Hid ((gw l k + gw m k + (addS l m k).2) / 18446744073709551616 = c) := hc
      have hs6 : (c64 (addS l m k).1).length = 4 := by rw [c64_length]; exact hs4
      clear r6 r2 r3 r4 hb hs4 hs hc
      go_wp2
      have F := V1_fit 24 g6 (c64 (addS l m k).1) (c64 (addS l m (k + 1)).1) wr (fun _ _ _ _ => False) (fun _ _ _ _ _ h => h)
      refine Mild2.wp_region F (by kernel_rfl) (by kernel_rfl) (Vw.draw _) ?_
      iterate 2 (refine Mild2.step_quiet F rfl rfl rfl (fun w0 hC hF K hK => ?_); clear hF; go_big_quiet_op; refine hK _ ?_; clear hK K hC; clear w0)
      refine Mild2.step_known F rfl rfl (.pointer (some ⟨g2, k, none⟩)) (fun w0 hC _ => exec_indexAt_arr Try.aw (.tmp 2) (.tmp 14) rfl g2 k .i64 k rfl hlt rfl rfl) ?_
      simp only [Act.put, List.setIfInBounds_toArray, List.set_cons_succ, List.set_cons_zero]
      refine Mild2.step_known F rfl rfl (.int .u64 (gw l k : Nat)) (fun w0 hC _ => exec_get Try.u64 (.tmp 15) rfl g2 k (c64 l) _ (hC.keep1 R2.out n1) (c64_gw (by omega)) rfl) ?_
      simp only [Act.put, List.setIfInBounds_toArray, List.set_cons_succ, List.set_cons_zero]
      iterate 1 (refine Mild2.step_quiet F rfl rfl rfl (fun w0 hC hF K hK => ?_); clear hF; go_big_quiet_op; refine hK _ ?_; clear hK K hC; clear w0)
      refine Mild2.step_known F rfl rfl (.pointer (some ⟨g3, k, none⟩)) (fun w0 hC _ => exec_indexAt_arr Try.aw (.tmp 3) (.tmp 17) rfl g3 k .i64 k rfl hlt rfl rfl) ?_
      simp only [Act.put, List.setIfInBounds_toArray, List.set_cons_succ, List.set_cons_zero]
      refine Mild2.step_known F rfl rfl (.int .u64 (gw m k : Nat)) (fun w0 hC _ => exec_get Try.u64 (.tmp 18) rfl g3 k (c64 m) _ (hC.keep1 R3.out n2) (c64_gw (by omega)) rfl) ?_
      simp only [Act.put, List.setIfInBounds_toArray, List.set_cons_succ, List.set_cons_zero]
      iterate 1 (refine Mild2.step_quiet F rfl rfl rfl (fun w0 hC hF K hK => ?_); clear hF; go_big_quiet_op; refine hK _ ?_; clear hK K hC; clear w0)
      refine Mild2.step_known F rfl rfl (.tuple #[.int .u64 (s : Nat), .int .u64 (c : Nat)]) (fun w0 hC _ => exec_callf 69 _ _ rfl rfl [.int .u64 (gw l k : Nat), .int .u64 (gw m k : Nat), .int .u64 ((addS l m k).2 : Nat)] rfl _ (add64_at _ _ _ s c (HC.out k) XS.out XC.out w0)) ?_
      simp only [Act.put, List.setIfInBounds_toArray, List.set_cons_succ, List.set_cons_zero]
      iterate 3 (refine Mild2.step_quiet F rfl rfl rfl (fun w0 hC hF K hK => ?_); clear hF; go_big_quiet_op; refine hK _ ?_; clear hK K hC; clear w0)
      refine Mild2.step_known F rfl rfl (.pointer (some ⟨g6, k, none⟩)) (fun w0 hC _ => exec_indexAt_arr Try.aw (.tmp 6) (.tmp 13) rfl g6 k .i64 k rfl hlt rfl rfl) ?_
      simp only [Act.put, List.setIfInBounds_toArray, List.set_cons_succ, List.set_cons_zero]
      refine Mild2.step_note rfl rfl (fun w => Arr 24 w g6 (c64 (addS l m (k + 1)).1)) Vw.new1 (fun w0 hC _ => store_cell1 hC R6.out _ HN.out (by omega) rfl 22 (.tmp 24) (.tmp 22) rfl Try.one64 rfl rfl) ?_
      iterate 1 (refine Mild2.step_quiet F rfl rfl rfl (fun w0 hC hF K hK => ?_); clear hF; go_big_quiet_op; refine hK _ ?_; clear hK K hC; clear w0)
      intro w8 hw8 hf8
      have r6' : Arr 24 w8 g6 (c64 (addS l m (k + 1)).1) := (hf8 none).2 rfl
      have r2' := hw8.keep1 R2.out n1
      have r3' := hw8.keep1 R3.out n2
      have r4' := hw8.keep1 R4.out n3
      have hb8 := HB.out.trans (hw8.below (B := w.heap.size) (fun _ _ _ hv => hv.1 ▸ k6) HB.out.size)
      clear hf8 hw8 F
      go_wp2
      go_roundw
      case rel => exact ⟨k + 1, by omega, by go_num, by rw [HS.out], r6', r2', r3', r4', hb8⟩
      case measure => simp [intOf]; omega
    · obtain rfl : k = 4 := by omega
      have hs6 : (c64 (addS l m 4).1).length = 4 := by rw [c64_length]; exact hs4
      go_wp2_with (first
        | (refine wpList_load_arr Try.aw rfl (.tmp 6) rfl g6 _ hs6 rfl r6 ?_)
        | (refine wpList_store_arr Try.aw rfl (.tmp 4) (.tmp 26) rfl rfl g4 _ (c64 (addS l m 4).1) rfl hs6 (c64_one _) rfl rfl r4 ?_; intro w9 r9 b9))
      refine bodyPost_ret (results_arr_tmp Try.aw Try.results45 _ w9 g4 _ hs6 rfl r9) rfl ⟨rfl, hb.trans (b9.below k4)⟩

set_option maxHeartbeats 1000000 in
theorem sub_any (a b : Nat) (ha : a < M) (hb : b < M) (w : World) :
    Calls Try.prog 43 #[wv a, wv b] w fun e w' => e = .returned (.tuple #[wv ((a + M - b) % M), .int .u64 ((if a < b then 1 else 0 : Nat) : Int)]) ∧ Below w.heap.size w w' := by
  have HA : Hid (subS (w4 a) (w4 b) 4 = (w4 ((a + M - b) % M), if a < b then 1 else 0)) := subS_all a b ha hb
  have HC : Hid (∀ i, (subS (w4 a) (w4 b) i).2 ≤ 1) := subS_carry _ _
  have hl : (w4 a).length = 4 := w4_length a
  have hm : (w4 b).length = 4 := w4_length b
  unfold wv
  have e1 : w4 ((a + M - b) % M) = (subS (w4 a) (w4 b) 4).1 := by rw [HA.out]
  have e2 : (if a < b then 1 else 0) = (subS (w4 a) (w4 b) 4).2 := by rw [HA.out]
  rw [e1, e2]
  clear e1 e2 ha hb
  generalize w4 a = l at *
  generalize w4 b = m at *
  clear HA
  go_enter Try.func43, Try.ntmps43
  go_wp2_with (first
    | (refine wpList_box_arr rfl _ (.tmp 0) rfl (c64 l) rfl ?_; intro g2 w2 hg2 ha2 hb2)
    | (refine wpList_box_arr rfl _ (.tmp 1) rfl (c64 m) rfl ?_; intro g3 w3 hg3 ha3 hb3)
    | (refine wpList_alloc_arr Try.aw rfl rfl 4 rfl ?_; rw [zeros4']; intro g4 w4 hg4 ha4 hb4)
    | (refine wpList_alloc_arr Try.aw rfl rfl 6 rfl ?_; rw [zeros4']; intro g6 w6 hg6 ha6 hb6))
  have n1 : g2 ≠ g6 := by have := ((ha2.gr hb3).gr hb4).lt; omega
  have n2 : g3 ≠ g6 := by have := (ha3.gr hb4).lt; omega
  have n3 : g4 ≠ g6 := by have := ha4.lt; omega
  have k6 : w.heap.size ≤ g6 := by have := hb2.size; have := hb3.size; have := hb4.size; omega
  have k4 : w.heap.size ≤ g4 := by have := hb2.size; have := hb3.size; omega
  have a2 := ((ha2.gr hb3).gr hb4).gr hb6
  have a3 := (ha3.gr hb4).gr hb6
  have a4 := ha4.gr hb6
  have hB : Below w.heap.size w w6 := Gr.trans (Gr.trans (Gr.trans hb2 hb3) hb4) hb6
  clear ha2 ha3 ha4 hb2 hb3 hb4 hb6 hg2 hg3 hg4 hg6
  go_loopw [7, 9] (fun c i wr => ∃ k : Nat, k ≤ 4 ∧ i = .int .i64 k ∧ c = .int .u64 ((subS l m k).2 : Nat) ∧ Arr 24 wr g6 (c64 (subS l m k).1) ∧ Arr 24 wr g2 (c64 l) ∧ Arr 24 wr g3 (c64 m) ∧ Arr 24 wr g4 (c64 [0, 0, 0, 0]) ∧ Below w.heap.size w wr) (fun _ i _ => 4 - (intOf i).toNat)
  case atStart => exact ⟨0, by omega, rfl, rfl, ha6, a2, a3, a4, hB⟩
  case round =>
    obtain ⟨k, hk, rfl, rfl, r6, r2, r3, r4, hb⟩ := hrel
    clear ha6 a2 a3 a4 hB
    have hs4 := subS_length l m k
    by_cases hlt : k < 4
    · have R6 : Hid (Arr 24 wr g6 (c64 (subS l m k).1)) := r6
      have R2 : Hid (Arr 24 wr g2 (c64 l)) := r2
      have R3 : Hid (Arr 24 wr g3 (c64 m)) := r3
      have R4 : Hid (Arr 24 wr g4 (c64 [0, 0, 0, 0])) := r4
      have HB : Hid (Below w.heap.size w wr) := hb
      obtain ⟨s, hs⟩ : ∃ s, (gw l k + 18446744073709551616 - gw m k - (subS l m k).2) % 18446744073709551616 = s := ⟨_, rfl⟩
      obtain ⟨c, hc⟩ : ∃ c, (if gw l k < gw m k + (subS l m k).2 then 1 else 0) = c := ⟨_, rfl⟩
      have HN : Hid (c64 (subS l m (k + 1)).1 = (c64 (subS l m k).1).set k (.int .u64 (s : Nat))) := by rw [c64_set, ← hs]; exact rfl
      have HS : Hid (c = (subS l m (k + 1)).2) := hc.symm
      have XS : Hid ((gw l k + 18446744073709551616 - gw m k - (subS l m k).2) % 18446744073709551616 = s) := hs
      have XC : Hid ((if gw l k < gw m k + (subS l m k).2 then 1 else 0) = c) := hc
      have hs6 : (c64 (subS l m k).1).length = 4 := by rw [c64_length]; exact hs4
      clear r6 r2 r3 r4 hb hs4 hs hc
      go_wp2
      have F := V1_fit 24 g6 (c64 (subS l m k).1) (c64 (subS l m (k + 1)).1) wr (fun _ _ _ _ => False) (fun _ _ _ _ _ h => h)
      refine Mild2.wp_region F (by kernel_rfl) (by kernel_rfl) (Vw.draw _) ?_
      iterate 2 (refine Mild2.step_quiet F rfl rfl rfl (fun w0 hC hF K hK => ?_); clear hF; go_big_quiet_op; refine hK _ ?_; clear hK K hC; clear w0)
      refine Mild2.step_known F rfl rfl (.pointer (some ⟨g2, k, none⟩)) (fun w0 hC _ => exec_indexAt_arr Try.aw (.tmp 2) (.tmp 14) rfl g2 k .i64 k rfl hlt rfl rfl) ?_
      simp only [Act.put, List.setIfInBounds_toArray, List.set_cons_succ, List.set_cons_zero]
      refine Mild2.step_known F rfl rfl (.int .u64 (gw l k : Nat)) (fun w0 hC _ => exec_get Try.u64 (.tmp 15) rfl g2 k (c64 l) _ (hC.keep1 R2.out n1) (c64_gw (by omega)) rfl) ?_
      simp only [Act.put, List.setIfInBounds_toArray, List.set_cons_succ, List.set_cons_zero]
      iterate 1 (refine Mild2.step_quiet F rfl rfl rfl (fun w0 hC hF K hK => ?_); clear hF; go_big_quiet_op; refine hK _ ?_; clear hK K hC; clear w0)
      refine Mild2.step_known F rfl rfl (.pointer (some ⟨g3, k, none⟩)) (fun w0 hC _ => exec_indexAt_arr Try.aw (.tmp 3) (.tmp 17) rfl g3 k .i64 k rfl hlt rfl rfl) ?_
      simp only [Act.put, List.setIfInBounds_toArray, List.set_cons_succ, List.set_cons_zero]
      refine Mild2.step_known F rfl rfl (.int .u64 (gw m k : Nat)) (fun w0 hC _ => exec_get Try.u64 (.tmp 18) rfl g3 k (c64 m) _ (hC.keep1 R3.out n2) (c64_gw (by omega)) rfl) ?_
      simp only [Act.put, List.setIfInBounds_toArray, List.set_cons_succ, List.set_cons_zero]
      iterate 1 (refine Mild2.step_quiet F rfl rfl rfl (fun w0 hC hF K hK => ?_); clear hF; go_big_quiet_op; refine hK _ ?_; clear hK K hC; clear w0)
      refine Mild2.step_known F rfl rfl (.tuple #[.int .u64 (s : Nat), .int .u64 (c : Nat)]) (fun w0 hC _ => exec_callf 67 _ _ rfl rfl [.int .u64 (gw l k : Nat), .int .u64 (gw m k : Nat), .int .u64 ((subS l m k).2 : Nat)] rfl _ (sub64_at _ _ _ s c (HC.out k) XS.out XC.out w0)) ?_
      simp only [Act.put, List.setIfInBounds_toArray, List.set_cons_succ, List.set_cons_zero]
      iterate 3 (refine Mild2.step_quiet F rfl rfl rfl (fun w0 hC hF K hK => ?_); clear hF; go_big_quiet_op; refine hK _ ?_; clear hK K hC; clear w0)
      refine Mild2.step_known F rfl rfl (.pointer (some ⟨g6, k, none⟩)) (fun w0 hC _ => exec_indexAt_arr Try.aw (.tmp 6) (.tmp 13) rfl g6 k .i64 k rfl hlt rfl rfl) ?_
      simp only [Act.put, List.setIfInBounds_toArray, List.set_cons_succ, List.set_cons_zero]
      refine Mild2.step_note rfl rfl (fun w => Arr 24 w g6 (c64 (subS l m (k + 1)).1)) Vw.new1 (fun w0 hC _ => store_cell1 hC R6.out _ HN.out (by omega) rfl 22 (.tmp 24) (.tmp 22) rfl Try.one64 rfl rfl) ?_
      iterate 1 (refine Mild2.step_quiet F rfl rfl rfl (fun w0 hC hF K hK => ?_); clear hF; go_big_quiet_op; refine hK _ ?_; clear hK K hC; clear w0)
      intro w8 hw8 hf8
      have r6' : Arr 24 w8 g6 (c64 (subS l m (k + 1)).1) := (hf8 none).2 rfl
      have r2' := hw8.keep1 R2.out n1
      have r3' := hw8.keep1 R3.out n2
      have r4' := hw8.keep1 R4.out n3
      have hb8 := HB.out.trans (hw8.below (B := w.heap.size) (fun _ _ _ hv => hv.1 ▸ k6) HB.out.size)
      clear hf8 hw8 F
      go_wp2
      go_roundw
      case rel => exact ⟨k + 1, by omega, by go_num, by rw [HS.out], r6', r2', r3', r4', hb8⟩
      case measure => simp [intOf]; omega
    · obtain rfl : k = 4 := by omega
      have hs6 : (c64 (subS l m 4).1).length = 4 := by rw [c64_length]; exact hs4
      go_wp2_with (first
        | (refine wpList_load_arr Try.aw rfl (.tmp 6) rfl g6 _ hs6 rfl r6 ?_)
        | (refine wpList_store_arr Try.aw rfl (.tmp 4) (.tmp 26) rfl rfl g4 _ (c64 (subS l m 4).1) rfl hs6 (c64_one _) rfl rfl r4 ?_; intro w9 r9 b9))
      refine bodyPost_ret (results_arr_tmp Try.aw Try.results43 _ w9 g4 _ hs6 rfl r9) rfl ⟨rfl, hb.trans (b9.below k4)⟩

end Go.Proofs.Ytpfoeeiacfadfaa
