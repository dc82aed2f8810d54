/-
  The product of any two numbers is as the document says. Conditions: none.
-/
import Derived.Test.YtijghhecclaafaaDoorCards
import Derived.Test.YtijghhecclaafaaDoorTie
import Derived.Test.YtijghhecclaafaaDoorLaid
import Derived.Test.YtijghhecclaafaaDoorV18
import Derived.Test.YtijghhecclaafaaDoorArrOpenW
import Derived.Test.YtijghhecclaafaaDoorLW0
import Derived.WalkKit
import Derived.ProofKit
import Derived.OpenShut
import Derived.ShutString
import Derived.ChangeOld
import Derived.Below
import Derived.Deep.DeepHandedRow
namespace Go.Proofs.YtijghhecclaafaaDoor.wideMul
open Go.ChangeShapes Go.WideShapes Go.ChangeAt Go.RowKit
open Go.ChangeMaps (open_string shut_string)
set_option linter.unusedVariables false

theorem own : ownKnob Tryd.prog.godebug = none := by kernel_rfl
theorem laidOut : laidOutB Tryd.prog = true := by kernel_rfl

set_option maxRecDepth 20000 in
set_option maxHeartbeats 8000000 in
/-- The walk. -/
theorem walk (l0 : Nat) (l1 : Nat) (w : World) (e0 : l0 < M) (e1 : l1 < M) (ht : Facts w) :
    Calls Tryd.prog 4 #[wv l0, wv l1] w fun e w' => e = .returned (.bool true) ∧ Below w.heap.size w w' := by
  have HT : Hid (Tb w) := ht
  obtain ⟨a, rfl⟩ : ∃ x, x = l0 := ⟨_, rfl⟩
  obtain ⟨b, rfl⟩ : ∃ x, x = l1 := ⟨_, rfl⟩
  have HAl : Hid (∀ w', Below w.heap.size w w' → Calls Tryd.prog 15 #[] w' fun e w'' => e = .returned (.bool true) ∧ Below w'.heap.size w' w'') := fun w' hb => alive_any w' (HT.out.gr hb)
  obtain ⟨x, ex⟩ : ∃ x, a * b % M = x := ⟨_, rfl⟩
  obtain ⟨y, ey⟩ : ∃ x, a * b / M = x := ⟨_, rfl⟩
  have Lx : Hid (x < M) := by show _ < _; rw [← ex]; exact Nat.mod_lt _ (by decide)
  have Ly : Hid (y < M) := by
    show _ < _
    rw [← ey, Nat.div_lt_iff_lt_mul (by decide)]
    exact Nat.lt_of_le_of_lt (Nat.mul_le_mul_left a (Nat.le_of_lt e1)) (Nat.mul_lt_mul_of_pos_right e0 (by decide))
  have H1 : Hid (∀ w, Calls Tryd.prog 21 #[wv a, wv b] w fun e w' => e = .returned ((.tuple #[wv x, wv y])) ∧ Below w.heap.size w w') := fun w => by have := mul_any a b e0 e1 w; rw [ex, ey] at this; exact this
  have H2 : Hid (∀ w, Calls Tryd.prog 22 #[wv a, wv b] w fun e w' => e = .returned ((.tuple #[wv x, wv y])) ∧ Below w.heap.size w w') := fun w => by have := rmul_any a b e0 e1 w; rw [ex, ey] at this; exact this
  clear ex ey e0 e1 ht
  have m := Mem.start w
  go_enter Tryd.func4, Tryd.ntmps4
  go_wp2_with ((first
    | (refine W.box m rfl (.tmp 0) rfl a rfl ?_; clear m; intro g2 wx2 m)
    | (refine W.box m rfl (.tmp 1) rfl b rfl ?_; clear m; intro g3 wx3 m)
    | (refine W.load m rfl (.tmp 2) rfl 1 rfl rfl ?_)
    | (refine W.load m rfl (.tmp 3) rfl 0 rfl rfl ?_)
    | (go_at_call 21; refine (H1.out _).mono ?_; rintro e wx12 ⟨rfl, b12⟩; replace m := m.gr b12; clear b12 H1)
    | (refine W.alloc m rfl rfl 5 rfl ?_; clear m; intro g5 wx5 m)
    | (refine W.alloc m rfl rfl 6 rfl ?_; clear m; intro g6 wx6 m)
    | (refine W.store m rfl (.tmp 5) (.tmp 13) rfl rfl 1 x rfl (w4_length _) rfl rfl ?_; clear m; intro wx101 m)
    | (refine W.store m rfl (.tmp 6) (.tmp 14) rfl rfl 0 y rfl (w4_length _) rfl rfl ?_; clear m; intro wx102 m)
    | (refine W.load m rfl (.tmp 2) rfl 3 rfl rfl ?_)
    | (refine W.load m rfl (.tmp 3) rfl 2 rfl rfl ?_)
    | (go_at_call 22; refine (H2.out _).mono ?_; rintro e wx18 ⟨rfl, b18⟩; replace m := m.gr b18; clear b18 H2)
    | (refine W.alloc m rfl rfl 7 rfl ?_; clear m; intro g7 wx7 m)
    | (refine W.alloc m rfl rfl 8 rfl ?_; clear m; intro g8 wx8 m)
    | (refine W.store m rfl (.tmp 7) (.tmp 19) rfl rfl 1 x rfl (w4_length _) rfl rfl ?_; clear m; intro wx103 m)
    | (refine W.store m rfl (.tmp 8) (.tmp 20) rfl rfl 0 y rfl (w4_length _) rfl rfl ?_; clear m; intro wx104 m)
    | (go_at_call 15; refine (HAl.out _ m.below).mono ?_; rintro e wx43 ⟨rfl, b43⟩; replace m := m.gr b43; clear b43)
    | (refine wpList_valG rfl (wv x) (W.xload m (Gr.refl _) (.tmp 5) rfl 3 rfl rfl) ?_)
    | (refine wpList_valG rfl (wv x) (W.xload m (Gr.refl _) (.tmp 7) rfl 1 rfl rfl) ?_)
    | (refine wpList_valG rfl (.bool true) (W.exec_eql (.tmp 23) (.tmp 24) _ rfl x x true Lx.out Lx.out (by simp) rfl rfl) ?_)
    | (refine wpList_valG rfl (wv y) (W.xload m (Gr.refl _) (.tmp 6) rfl 2 rfl rfl) ?_)
    | (refine wpList_valG rfl (wv y) (W.xload m (Gr.refl _) (.tmp 8) rfl 0 rfl rfl) ?_)
    | (refine wpList_valG rfl (.bool true) (W.exec_eql (.tmp 28) (.tmp 29) _ rfl y y true Ly.out Ly.out (by simp) rfl rfl) ?_)); try simp only [Act.put, List.setIfInBounds_toArray, List.set_cons_succ, List.set_cons_zero])
  go_ret
  exact ⟨rfl, m.below⟩

theorem contract (H : Type) (enc : TypeId × Value → H) (W : World) (base : Nat) (args : Array Value) (ds gs : List (DataW H)) (before : List MemPlace)
    (hval0 : ∀ (j : Nat) t v, Tryd.f4.params[j]? = some t → args[j]? = some v → Value.okWide Tryd.prog W .any base t v)
    (hW : DataW.Whole enc Tryd.prog Tryd.f4.params.toList Rows.wideMulSpec.vars false W args.toList ds gs before) (hL : laidMetH Tryd.prog Rows.wideMulRow.laid W) :
    Calls Tryd.prog 4 args W fun e W' => ∃ v, e = .returned v ∧ Rows.wideMulSpec.post enc Tryd.prog Tryd.f4 false true false false W args v W' := by
  have hval : ∀ (j : Nat) t v, Tryd.f4.params[j]? = some t → args[j]? = some v → Value.okWide Tryd.prog W .any base t v := hval0
  have hW' := hW
  obtain ⟨p, q, hA0, hV, rfl, hfz, hnd⟩ := hW
  have hA : DataW.TrodAll enc Tryd.prog W 0 (fun _ => true) true Tryd.f4.params.toList args.toList ds p := hA0
  rw [Tryd.params4] at hA hval
  obtain ⟨v0, vs0, d0, ds0, p0, q0, hargs, rfl, rfl, h0, r0⟩ := trodAll_cons hA
  obtain ⟨v1, vs1, d1, ds1, p1, q1, rfl, rfl, rfl, h1, r1⟩ := trodAll_cons r0
  obtain ⟨rfl, rfl, rfl⟩ := trodAll_nil r1
  obtain rfl : args = #[v0, v1] := by cases args; simp_all
  obtain ⟨rfl, rfl⟩ := trodVars_none hV
  have k0 := h0
  have lt0 : ∀ x ∈ p0, x.block < W.heap.size := by obtain ⟨m, hm⟩ := k0; exact DataW.trod_lt m _ _ _ hm
  obtain ⟨l0, e0, rfl⟩ := open_wide (hval 0 24 v0 rfl rfl) h0
  have k1 := h1
  have lt1 : ∀ x ∈ p1, x.block < W.heap.size := by obtain ⟨m, hm⟩ := k1; exact DataW.trod_lt m _ _ _ hm
  obtain ⟨l1, e1, rfl⟩ := open_wide (hval 1 24 v1 rfl rfl) h1
  clear hA0 hval0
  refine (walk l0 l1 W e0 e1 (facts_of hL)).mono fun e W' ⟨he, bel⟩ => ?_
  subst he
  exact ⟨_, rfl, _, _, _, [], _, [], hW', trodAll_mk1 (shut_bool Tryd.underlying4 _), (trodAll_cons_mk (Below.trod laidOut (by kernel_rfl) (of_decide_eq_true (by kernel_rfl)) k0 bel lt0) (trodAll_cons_mk (Below.trod laidOut (by kernel_rfl) (of_decide_eq_true (by kernel_rfl)) k1 bel lt1) trodAll_mk0)), rfl, bel.frame _, fun h => by cases h⟩

theorem laid_met (os : Os) : laidMet Tryd.prog Rows.wideMulRow.laid ((laidWorld os).forCall (fun _ _ => 0) ⟨#[], #[.agg #[.int .u64 0, .int .u64 0, .int .u64 0, .int .u64 0], .agg #[.int .u64 0, .int .u64 0, .int .u64 0, .int .u64 0]], []⟩).memory :=
  laidMet_of_run' 8 (by kernel_rfl) (by kernel_rfl)
theorem reads (os : Os) {H : Type} (enc : TypeId × Value → H) : ∃ places, DataW.whole enc Tryd.prog ((laidWorld os).forCall (fun _ _ => 0) ⟨#[], #[.agg #[.int .u64 0, .int .u64 0, .int .u64 0, .int .u64 0], .agg #[.int .u64 0, .int .u64 0, .int .u64 0, .int .u64 0]], []⟩).memory Tryd.f4.params.toList Rows.wideMulSpec.vars false (#[.agg #[.int .u64 0, .int .u64 0, .int .u64 0, .int .u64 0], .agg #[.int .u64 0, .int .u64 0, .int .u64 0, .int .u64 0]] : Array Value).toList 8 = some ([.agg [.lit (.int .u64 0), .lit (.int .u64 0), .lit (.int .u64 0), .lit (.int .u64 0)], .agg [.lit (.int .u64 0), .lit (.int .u64 0), .lit (.int .u64 0), .lit (.int .u64 0)]], [], places) :=
  ⟨[], by kernel_rfl⟩

set_option maxRecDepth 100000 in
theorem lifted (os : Os) (started : os.Started) (H : Type) (enc : TypeId × Value → H) (F : Stop.Interp) :
    ReturnsInHanded {} Tryd.checked os 4 .any ((OpenSpec.ofChange Rows.wideMulSpec).preRow enc Tryd.prog Tryd.f4 Rows.wideMulRow.domain false Rows.wideMulRow.laid) (((OpenSpec.ofChange Rows.wideMulSpec).at F).post enc Tryd.prog Tryd.f4 false true false false) := by
  obtain ⟨places, hx⟩ := reads os enc
  refine returnsInHanded_of_row (C := Tryd.checked) (s := OpenSpec.ofChange Rows.wideMulSpec) own started (by kernel_rfl) Tryd.func4
    (witness_row_at (enc := enc) (C := Tryd.checked) false (laidWorld os) #[.agg #[.int .u64 0, .int .u64 0, .int .u64 0, .int .u64 0], .agg #[.int .u64 0, .int .u64 0, .int .u64 0, .int .u64 0]] rfl (by kernel_rfl) (by kernel_rfl) (by kernel_rfl)
      (OpenSpec.preRow_of_cond 8 hx (by kernel_rfl) (fun k hk => by cases hk) (by kernel_rfl) (laid_met os))) ?_
  intro W base args ds gs before hval hW _ _ _ hL _ _
  exact contract H enc W base args ds gs before hval hW hL

theorem said : Rows.WideMulSaid :=
  OpenClaim.holds_of_cond 4 Tryd.f4 rfl rfl rfl rfl rfl rfl rfl ⟨rfl, rfl, rfl, rfl, rfl⟩ rfl rfl rfl rfl rfl (by kernel_rfl) Tryd.func4 (by kernel_rfl)
    (of_decide_eq_true (by kernel_rfl)) (by unfold Func.isWrapper; first | (rw [if_pos (by decide +kernel)]; kernel_rfl) | (rw [if_neg (by decide +kernel)]; exact ⟨rfl, rfl⟩))
    (fun os started H enc _ F => by rw [OpenClaim.pre_eq_preRow]; exact lifted os started H enc F)

theorem plain (f : FuncId) (fn : Func) (hf : Tryd.pinned.checked.prog.funcNamed "entail/entaillaw06.WideMul" = some f) (hfn : Tryd.pinned.checked.prog.funcs[f]? = some fn) :
    false = Tryd.pinned.checked.prog.looks [] ∧ ∀ (j : Nat) t, fn.params[j]? = some t → Tryd.pinned.checked.prog.wantsStandIn t = false := by
  obtain rfl : f = 4 := Option.some.inj ((show Tryd.prog.funcNamed "entail/entaillaw06.WideMul" = some 4 by kernel_rfl).symm.trans hf) |>.symm
  obtain rfl : fn = Tryd.f4 := (Option.some.inj (Tryd.func4.symm.trans hfn)).symm
  refine ⟨by kernel_rfl, fun j t ht => ?_⟩
  rw [Tryd.params4] at ht
  have hm := Array.mem_of_getElem? ht
  simp at hm
  rcases hm with rfl
  all_goals first | exact (show Tryd.prog.wantsStandIn 24 = false by kernel_rfl)

/-- The statement. -/
theorem proved : Rows.WideMulCardSaid :=
  Claim7.holds_tied_plain_at .later [] _ _ _ _ said (fun _ h => by cases h) (by kernel_rfl) (fun _ h => by cases h) wideMul_row_tie rfl ⟨rfl, rfl⟩ (by kernel_rfl) rfl plain (by kernel_rfl)
#print axioms proved
end Go.Proofs.YtijghhecclaafaaDoor.wideMul
