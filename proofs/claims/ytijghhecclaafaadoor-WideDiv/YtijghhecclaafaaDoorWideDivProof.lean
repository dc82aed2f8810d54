/-
  Quotients, and what is left, of any numbers, also of 512 bits, are as the document says. Conditions: none.
-/
import Derived.Test.YtijghhecclaafaaDoorCards
import Derived.Test.YtijghhecclaafaaDoorTie
import Derived.Test.YtijghhecclaafaaDoorLaid
import Derived.Test.YtijghhecclaafaaDoorV20
import Derived.Test.YtijghhecclaafaaDoorArrOpenW
import Derived.Test.YtijghhecclaafaaDoorLW0
import Derived.WalkKit
import Derived.ProofKit
import Derived.OpenShut
import Derived.ShutString
import Derived.ChangeOld
import Derived.Below
import Derived.Deep.DeepHandedRow
namespace Go.Proofs.YtijghhecclaafaaDoor.wideDiv
open Go.ChangeShapes Go.WideShapes Go.ChangeAt Go.RowKit
open Go.ChangeMaps (open_string shut_string)
set_option linter.unusedVariables false

theorem own : ownKnob Tryd.prog.godebug = none := by kernel_rfl
theorem laidOut : laidOutB Tryd.prog = true := by kernel_rfl

set_option maxRecDepth 20000 in
set_option maxHeartbeats 8000000 in
/-- The walk. -/
theorem walk (l0 : Nat) (l1 : Nat) (l2 : Nat) (w : World) (e0 : l0 < M) (e1 : l1 < M) (e2 : l2 < M) (ht : Facts w) :
    Calls Tryd.prog 5 #[wv l0, wv l1, wv l2] w fun e w' => e = .returned (.bool true) ∧ Below w.heap.size w w' := by
  have HT : Hid (Tb w) := ht
  obtain ⟨a, rfl⟩ : ∃ x, x = l0 := ⟨_, rfl⟩
  obtain ⟨b, rfl⟩ : ∃ x, x = l1 := ⟨_, rfl⟩
  obtain ⟨d, rfl⟩ : ∃ x, x = l2 := ⟨_, rfl⟩
  have HAl : Hid (∀ w', Below w.heap.size w w' → Calls Tryd.prog 15 #[] w' fun e w'' => e = .returned (.bool true) ∧ Below w'.heap.size w' w'') := fun w' hb => alive_any w' (HT.out.gr hb)
  obtain ⟨x, ex⟩ : ∃ x, a / d = x := ⟨_, rfl⟩
  obtain ⟨y, ey⟩ : ∃ x, (if d = 0 then 0 else a % d) = x := ⟨_, rfl⟩
  obtain ⟨z, ez⟩ : ∃ x, (if d = 0 then 0 else (a * M + b) % d) = x := ⟨_, rfl⟩
  obtain ⟨e, ee⟩ : ∃ x : Int, (if d = 0 then 1 else 0) = x := ⟨_, rfl⟩
  have Lx : Hid (x < M) := by show _ < _; rw [← ex]; exact Nat.lt_of_le_of_lt (Nat.div_le_self _ _) e0
  have Ly : Hid (y < M) := by
    show _ < _
    rw [← ey]
    split
    · decide
    · exact Nat.lt_trans (Nat.mod_lt _ (by omega)) e2
  have Lz : Hid (z < M) := by
    show _ < _
    rw [← ez]
    split
    · decide
    · exact Nat.lt_trans (Nat.mod_lt _ (by omega)) e2
  have H1 : Hid (∀ w, Calls Tryd.prog 23 #[wv a, wv d] w fun e' w' => e' = .returned ((.tuple #[wv x, wv y, .int .i64 e])) ∧ Below w.heap.size w w') := fun w => by have := div_any a d e0 e2 w; rw [ex, ey, ee] at this; exact this
  have H2 : Hid (∀ w, Calls Tryd.prog 24 #[wv a, wv d] w fun e' w' => e' = .returned ((.tuple #[wv x, wv y, .int .i64 e])) ∧ Below w.heap.size w w') := fun w => by have := rdiv_any a d e0 e2 w; rw [ex, ey, ee] at this; exact this
  have H3 : Hid (∀ w, Calls Tryd.prog 25 #[wv a, wv b, wv d] w fun e' w' => e' = .returned ((.tuple #[wv z, .int .i64 e])) ∧ Below w.heap.size w w') := fun w => by have := rem_any a b d e0 e1 e2 w; rw [ez, ee] at this; exact this
  have H4 : Hid (∀ w, Calls Tryd.prog 26 #[wv a, wv b, wv d] w fun e' w' => e' = .returned ((.tuple #[wv z, .int .i64 e])) ∧ Below w.heap.size w w') := fun w => by have := rrem_any a b d e0 e1 e2 w; rw [ez, ee] at this; exact this
  clear ex ey ez ee e0 e1 e2 ht
  have m := Mem.start w
  go_enter Tryd.func5, Tryd.ntmps5
  go_wp2_with ((first
    | (refine W.box m rfl (.tmp 0) rfl a rfl ?_; clear m; intro g3 wx3 m)
    | (refine W.box m rfl (.tmp 1) rfl b rfl ?_; clear m; intro g4 wx4 m)
    | (refine W.box m rfl (.tmp 2) rfl d rfl ?_; clear m; intro g5 wx5 m)
    | (refine W.load m rfl (.tmp 3) rfl 2 rfl rfl ?_)
    | (refine W.load m rfl (.tmp 5) rfl 0 rfl rfl ?_)
    | (go_at_call 23; refine (H1.out _).mono ?_; rintro e9 wx20 ⟨rfl, b20⟩; replace m := m.gr b20; clear b20 H1)
    | (refine W.alloc m rfl rfl 7 rfl ?_; clear m; intro g7 wx7 m)
    | (refine W.alloc m rfl rfl 8 rfl ?_; clear m; intro g8 wx8 m)
    | (refine W.store m rfl (.tmp 7) (.tmp 21) rfl rfl 1 x rfl (w4_length _) rfl rfl ?_; clear m; intro wx101 m)
    | (refine W.store m rfl (.tmp 8) (.tmp 22) rfl rfl 0 y rfl (w4_length _) rfl rfl ?_; clear m; intro wx102 m)
    | (refine W.load m rfl (.tmp 3) rfl 4 rfl rfl ?_)
    | (refine W.load m rfl (.tmp 5) rfl 2 rfl rfl ?_)
    | (go_at_call 24; refine (H2.out _).mono ?_; rintro e9 wx27 ⟨rfl, b27⟩; replace m := m.gr b27; clear b27 H2)
    | (refine W.alloc m rfl rfl 10 rfl ?_; clear m; intro g10 wx10 m)
    | (refine W.alloc m rfl rfl 11 rfl ?_; clear m; intro g11 wx11 m)
    | (refine W.store m rfl (.tmp 10) (.tmp 28) rfl rfl 1 x rfl (w4_length _) rfl rfl ?_; clear m; intro wx103 m)
    | (refine W.store m rfl (.tmp 11) (.tmp 29) rfl rfl 0 y rfl (w4_length _) rfl rfl ?_; clear m; intro wx104 m)
    | (refine W.load m rfl (.tmp 3) rfl 6 rfl rfl ?_)
    | (refine W.load m rfl (.tmp 4) rfl 5 rfl rfl ?_)
    | (refine W.load m rfl (.tmp 5) rfl 4 rfl rfl ?_)
    | (go_at_call 25; refine (H3.out _).mono ?_; rintro e9 wx35 ⟨rfl, b35⟩; replace m := m.gr b35; clear b35 H3)
    | (refine W.alloc m rfl rfl 13 rfl ?_; clear m; intro g13 wx13 m)
    | (refine W.store m rfl (.tmp 13) (.tmp 36) rfl rfl 0 z rfl (w4_length _) rfl rfl ?_; clear m; intro wx105 m)
    | (refine W.load m rfl (.tmp 3) rfl 7 rfl rfl ?_)
    | (refine W.load m rfl (.tmp 4) rfl 6 rfl rfl ?_)
    | (refine W.load m rfl (.tmp 5) rfl 5 rfl rfl ?_)
    | (go_at_call 26; refine (H4.out _).mono ?_; rintro e9 wx42 ⟨rfl, b42⟩; replace m := m.gr b42; clear b42 H4)
    | (refine W.alloc m rfl rfl 15 rfl ?_; clear m; intro g15 wx15 m)
    | (refine W.store m rfl (.tmp 15) (.tmp 43) rfl rfl 0 z rfl (w4_length _) rfl rfl ?_; clear m; intro wx106 m)
    | (go_at_call 15; refine (HAl.out _ m.below).mono ?_; rintro e9 wx43 ⟨rfl, b43⟩; replace m := m.gr b43; clear b43)
    | (refine wpList_valG rfl (wv x) (W.xload m (Gr.refl _) (.tmp 7) rfl 5 rfl rfl) ?_)
    | (refine wpList_valG rfl (wv x) (W.xload m (Gr.refl _) (.tmp 10) rfl 3 rfl rfl) ?_)
    | (refine wpList_valG rfl (.bool true) (W.exec_eql (.tmp 47) (.tmp 48) _ rfl x x true Lx.out Lx.out (by simp) rfl rfl) ?_)
    | (refine wpList_valG rfl (wv y) (W.xload m (Gr.refl _) (.tmp 8) rfl 4 rfl rfl) ?_)
    | (refine wpList_valG rfl (wv y) (W.xload m (Gr.refl _) (.tmp 11) rfl 2 rfl rfl) ?_)
    | (refine wpList_valG rfl (.bool true) (W.exec_eql (.tmp 52) (.tmp 53) _ rfl y y true Ly.out Ly.out (by simp) rfl rfl) ?_)
    | (refine wpList_valG rfl (wv z) (W.xload m (Gr.refl _) (.tmp 13) rfl 1 rfl rfl) ?_)
    | (refine wpList_valG rfl (wv z) (W.xload m (Gr.refl _) (.tmp 15) rfl 0 rfl rfl) ?_)
    | (refine wpList_valG rfl (.bool true) (W.exec_eql (.tmp 62) (.tmp 63) _ rfl z z true Lz.out Lz.out (by simp) rfl rfl) ?_)); try simp only [Act.put, List.setIfInBounds_toArray, List.set_cons_succ, List.set_cons_zero])
  go_ret
  exact ⟨rfl, m.below⟩

theorem contract (H : Type) (enc : TypeId × Value → H) (W : World) (base : Nat) (args : Array Value) (ds gs : List (DataW H)) (before : List MemPlace)
    (hval0 : ∀ (j : Nat) t v, Tryd.f5.params[j]? = some t → args[j]? = some v → Value.okWide Tryd.prog W .any base t v)
    (hW : DataW.Whole enc Tryd.prog Tryd.f5.params.toList Rows.wideDivSpec.vars false W args.toList ds gs before) (hL : laidMetH Tryd.prog Rows.wideDivRow.laid W) :
    Calls Tryd.prog 5 args W fun e W' => ∃ v, e = .returned v ∧ Rows.wideDivSpec.post enc Tryd.prog Tryd.f5 false true false false W args v W' := by
  have hval : ∀ (j : Nat) t v, Tryd.f5.params[j]? = some t → args[j]? = some v → Value.okWide Tryd.prog W .any base t v := hval0
  have hW' := hW
  obtain ⟨p, q, hA0, hV, rfl, hfz, hnd⟩ := hW
  have hA : DataW.TrodAll enc Tryd.prog W 0 (fun _ => true) true Tryd.f5.params.toList args.toList ds p := hA0
  rw [Tryd.params5] at hA hval
  obtain ⟨v0, vs0, d0, ds0, p0, q0, hargs, rfl, rfl, h0, r0⟩ := trodAll_cons hA
  obtain ⟨v1, vs1, d1, ds1, p1, q1, rfl, rfl, rfl, h1, r1⟩ := trodAll_cons r0
  obtain ⟨v2, vs2, d2, ds2, p2, q2, rfl, rfl, rfl, h2, r2⟩ := trodAll_cons r1
  obtain ⟨rfl, rfl, rfl⟩ := trodAll_nil r2
  obtain rfl : args = #[v0, v1, v2] := by cases args; simp_all
  obtain ⟨rfl, rfl⟩ := trodVars_none hV
  have k0 := h0
  have lt0 : ∀ x ∈ p0, x.block < W.heap.size := by obtain ⟨m, hm⟩ := k0; exact DataW.trod_lt m _ _ _ hm
  obtain ⟨l0, e0, rfl⟩ := open_wide (hval 0 24 v0 rfl rfl) h0
  have k1 := h1
  have lt1 : ∀ x ∈ p1, x.block < W.heap.size := by obtain ⟨m, hm⟩ := k1; exact DataW.trod_lt m _ _ _ hm
  obtain ⟨l1, e1, rfl⟩ := open_wide (hval 1 24 v1 rfl rfl) h1
  have k2 := h2
  have lt2 : ∀ x ∈ p2, x.block < W.heap.size := by obtain ⟨m, hm⟩ := k2; exact DataW.trod_lt m _ _ _ hm
  obtain ⟨l2, e2, rfl⟩ := open_wide (hval 2 24 v2 rfl rfl) h2
  clear hA0 hval0
  refine (walk l0 l1 l2 W e0 e1 e2 (facts_of hL)).mono fun e W' ⟨he, bel⟩ => ?_
  subst he
  exact ⟨_, rfl, _, _, _, [], _, [], hW', trodAll_mk1 (shut_bool Tryd.underlying4 _), (trodAll_cons_mk (Below.trod laidOut (by kernel_rfl) (of_decide_eq_true (by kernel_rfl)) k0 bel lt0) (trodAll_cons_mk (Below.trod laidOut (by kernel_rfl) (of_decide_eq_true (by kernel_rfl)) k1 bel lt1) (trodAll_cons_mk (Below.trod laidOut (by kernel_rfl) (of_decide_eq_true (by kernel_rfl)) k2 bel lt2) trodAll_mk0))), rfl, bel.frame _, fun h => by cases h⟩

theorem laid_met (os : Os) : laidMet Tryd.prog Rows.wideDivRow.laid ((laidWorld os).forCall (fun _ _ => 0) ⟨#[], #[.agg #[.int .u64 0, .int .u64 0, .int .u64 0, .int .u64 0], .agg #[.int .u64 0, .int .u64 0, .int .u64 0, .int .u64 0], .agg #[.int .u64 0, .int .u64 0, .int .u64 0, .int .u64 0]], []⟩).memory :=
  laidMet_of_run' 8 (by kernel_rfl) (by kernel_rfl)
theorem reads (os : Os) {H : Type} (enc : TypeId × Value → H) : ∃ places, DataW.whole enc Tryd.prog ((laidWorld os).forCall (fun _ _ => 0) ⟨#[], #[.agg #[.int .u64 0, .int .u64 0, .int .u64 0, .int .u64 0], .agg #[.int .u64 0, .int .u64 0, .int .u64 0, .int .u64 0], .agg #[.int .u64 0, .int .u64 0, .int .u64 0, .int .u64 0]], []⟩).memory Tryd.f5.params.toList Rows.wideDivSpec.vars false (#[.agg #[.int .u64 0, .int .u64 0, .int .u64 0, .int .u64 0], .agg #[.int .u64 0, .int .u64 0, .int .u64 0, .int .u64 0], .agg #[.int .u64 0, .int .u64 0, .int .u64 0, .int .u64 0]] : Array Value).toList 8 = some ([.agg [.lit (.int .u64 0), .lit (.int .u64 0), .lit (.int .u64 0), .lit (.int .u64 0)], .agg [.lit (.int .u64 0), .lit (.int .u64 0), .lit (.int .u64 0), .lit (.int .u64 0)], .agg [.lit (.int .u64 0), .lit (.int .u64 0), .lit (.int .u64 0), .lit (.int .u64 0)]], [], places) :=
  ⟨[], by kernel_rfl⟩

set_option maxRecDepth 100000 in
theorem lifted (os : Os) (started : os.Started) (H : Type) (enc : TypeId × Value → H) (F : Stop.Interp) :
    ReturnsInHanded {} Tryd.checked os 5 .any ((OpenSpec.ofChange Rows.wideDivSpec).preRow enc Tryd.prog Tryd.f5 Rows.wideDivRow.domain false Rows.wideDivRow.laid) (((OpenSpec.ofChange Rows.wideDivSpec).at F).post enc Tryd.prog Tryd.f5 false true false false) := by
  obtain ⟨places, hx⟩ := reads os enc
  refine returnsInHanded_of_row (C := Tryd.checked) (s := OpenSpec.ofChange Rows.wideDivSpec) own started (by kernel_rfl) Tryd.func5
    (witness_row_at (enc := enc) (C := Tryd.checked) false (laidWorld os) #[.agg #[.int .u64 0, .int .u64 0, .int .u64 0, .int .u64 0], .agg #[.int .u64 0, .int .u64 0, .int .u64 0, .int .u64 0], .agg #[.int .u64 0, .int .u64 0, .int .u64 0, .int .u64 0]] rfl (by kernel_rfl) (by kernel_rfl) (by kernel_rfl)
      (OpenSpec.preRow_of_cond 8 hx (by kernel_rfl) (fun k hk => by cases hk) (by kernel_rfl) (laid_met os))) ?_
  intro W base args ds gs before hval hW _ _ _ hL _ _
  exact contract H enc W base args ds gs before hval hW hL

theorem said : Rows.WideDivSaid :=
  OpenClaim.holds_of_cond 5 Tryd.f5 rfl rfl rfl rfl rfl rfl rfl ⟨rfl, rfl, rfl, rfl, rfl⟩ rfl rfl rfl rfl rfl (by kernel_rfl) Tryd.func5 (by kernel_rfl)
    (of_decide_eq_true (by kernel_rfl)) (by unfold Func.isWrapper; first | (rw [if_pos (by decide +kernel)]; kernel_rfl) | (rw [if_neg (by decide +kernel)]; exact ⟨rfl, rfl⟩))
    (fun os started H enc _ F => by rw [OpenClaim.pre_eq_preRow]; exact lifted os started H enc F)

theorem plain (f : FuncId) (fn : Func) (hf : Tryd.pinned.checked.prog.funcNamed "entail/entaillaw06.WideDiv" = some f) (hfn : Tryd.pinned.checked.prog.funcs[f]? = some fn) :
    false = Tryd.pinned.checked.prog.looks [] ∧ ∀ (j : Nat) t, fn.params[j]? = some t → Tryd.pinned.checked.prog.wantsStandIn t = false := by
  obtain rfl : f = 5 := Option.some.inj ((show Tryd.prog.funcNamed "entail/entaillaw06.WideDiv" = some 5 by kernel_rfl).symm.trans hf) |>.symm
  obtain rfl : fn = Tryd.f5 := (Option.some.inj (Tryd.func5.symm.trans hfn)).symm
  refine ⟨by kernel_rfl, fun j t ht => ?_⟩
  rw [Tryd.params5] at ht
  have hm := Array.mem_of_getElem? ht
  simp at hm
  rcases hm with rfl
  all_goals first | exact (show Tryd.prog.wantsStandIn 24 = false by kernel_rfl)

/-- The statement. -/
theorem proved : Rows.WideDivCardSaid :=
  Claim7.holds_tied_plain_at .later [] _ _ _ _ said (fun _ h => by cases h) (by kernel_rfl) (fun _ h => by cases h) wideDiv_row_tie rfl ⟨rfl, rfl⟩ (by kernel_rfl) rfl plain (by kernel_rfl)
#print axioms proved
end Go.Proofs.YtijghhecclaafaaDoor.wideDiv
