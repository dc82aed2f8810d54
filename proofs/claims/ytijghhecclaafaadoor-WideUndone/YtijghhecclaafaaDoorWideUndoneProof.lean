/-
  UNDONE: what is added is taken away again; quotient times divisor, and what is left, are the dividend; a product, divided by a factor that is not 0, leaves nothing. Conditions: none.
-/
import Derived.Test.YtijghhecclaafaaDoorCards
import Derived.Test.YtijghhecclaafaaDoorTie
import Derived.Test.YtijghhecclaafaaDoorLaid
import Derived.Test.YtijghhecclaafaaDoorV12
import Derived.Test.YtijghhecclaafaaDoorArrOpenW
import Derived.Test.YtijghhecclaafaaDoorLW0
import Derived.WalkKit
import Derived.ProofKit
import Derived.OpenShut
import Derived.ShutString
import Derived.ChangeOld
import Derived.Below
import Derived.Deep.DeepHandedRow
namespace Go.Proofs.YtijghhecclaafaaDoor.wideUndone
open Go.ChangeShapes Go.WideShapes Go.ChangeAt Go.RowKit
open Go.ChangeMaps (open_string shut_string)
set_option linter.unusedVariables false

theorem own : ownKnob Tryd.prog.godebug = none := by kernel_rfl
theorem laidOut : laidOutB Tryd.prog = true := by kernel_rfl

set_option maxRecDepth 20000 in
set_option maxHeartbeats 8000000 in
/-- The walk. -/
theorem walk (l0 : Nat) (l1 : Nat) (w : World) (e0 : l0 < M) (e1 : l1 < M) (ht : Facts w) :
    Calls Tryd.prog 8 #[wv l0, wv l1] w fun e w' => e = .returned (.bool true) ∧ Below w.heap.size w w' := by
  have HT : Hid (Tb w) := ht
  obtain ⟨a, rfl⟩ : ∃ x, x = l0 := ⟨_, rfl⟩
  obtain ⟨b, rfl⟩ : ∃ x, x = l1 := ⟨_, rfl⟩
  have La : Hid (a < M) := e0
  have Lb : Hid (b < M) := e1
  have L0 : Hid (0 < M) := by show _ < _; decide
  have HAl : Hid (∀ w', Below w.heap.size w w' → Calls Tryd.prog 15 #[] w' fun e w'' => e = .returned (.bool true) ∧ Below w'.heap.size w' w'') := fun w' hb => alive_any w' (HT.out.gr hb)
  obtain ⟨s, es⟩ : ∃ x, (a + b) % M = x := ⟨_, rfl⟩
  obtain ⟨c, ec⟩ : ∃ x, (a + b) / M = x := ⟨_, rfl⟩
  have hsM : s < M := by rw [← es]; exact Nat.mod_lt _ (by decide)
  have H1 : Hid (∀ w, Calls Tryd.prog 11 #[wv a, wv b] w fun e w' => e = .returned ((.tuple #[wv s, .int .u64 (c : Nat)])) ∧ Below w.heap.size w w') := fun w => by have := add_any a b e0 e1 w; rw [es, ec] at this; exact this
  have H2 : Hid (∀ w, Calls Tryd.prog 13 #[wv s, wv b] w fun e w' => e = .returned ((.tuple #[wv a, .int .u64 (c : Nat)])) ∧ Below w.heap.size w w') := fun w => by
    have := sub_any s b hsM e1 w
    obtain ⟨k1, k2⟩ := undo_add a b s c e0 e1 es ec
    rw [k1, k2] at this; exact this
  by_cases h0 : b = 0
  · have E0 : Hid (decide (b = 0) = true) := decide_eq_true h0
    clear h0 es ec hsM e0 e1 ht
    have m := Mem.start w
    go_enter Tryd.func8, Tryd.ntmps8
    go_wp2_with ((first
      | (refine W.box m rfl (.tmp 0) rfl a rfl ?_; clear m; intro g2 wx2 m)
      | (refine W.box m rfl (.tmp 1) rfl b rfl ?_; clear m; intro g3 wx3 m)
      | (refine W.load m rfl (.tmp 2) rfl 1 rfl rfl ?_)
      | (refine W.load m rfl (.tmp 3) rfl 0 rfl rfl ?_)
      | (go_at_call 11; refine (H1.out _).mono ?_; rintro e wx23 ⟨rfl, b23⟩; replace m := m.gr b23; clear b23 H1)
      | (refine W.alloc m rfl rfl 5 rfl ?_; clear m; intro g5 wx5 m)
      | (refine W.store m rfl (.tmp 5) (.tmp 24) rfl rfl 0 s rfl (w4_length _) rfl rfl ?_; clear m; intro wx101 m)
      | (refine W.load m rfl (.tmp 5) rfl 0 rfl rfl ?_)
      | (refine W.load m rfl (.tmp 3) rfl 1 rfl rfl ?_)
      | (go_at_call 13; refine (H2.out _).mono ?_; rintro e wx29 ⟨rfl, b29⟩; replace m := m.gr b29; clear b29 H2)
      | (refine W.alloc m rfl rfl 7 rfl ?_; clear m; intro g7 wx7 m)
      | (refine W.store m rfl (.tmp 7) (.tmp 30) rfl rfl 0 a rfl (w4_length _) rfl rfl ?_; clear m; intro wx102 m)
      | (refine W.load m rfl (.tmp 7) rfl 0 rfl rfl ?_)
      | (refine W.load m rfl (.tmp 2) rfl 3 rfl rfl ?_)
      | (refine wpList_val rfl (.bool false) (W.exec_neq (.tmp 32) (.tmp 33) _ rfl a a false La.out La.out (by simp) rfl rfl) ?_)
      | (refine W.load m rfl (.tmp 3) rfl 2 rfl rfl ?_)
      | (refine W.build0 rfl rfl ?_)
      | (refine W.eql rfl (.tmp 40) (.tmp 41) _ rfl b 0 true Lb.out L0.out E0.out rfl rfl ?_)
      | (go_at_call 15; refine (HAl.out _ m.below).mono ?_; rintro e wx43 ⟨rfl, b43⟩; replace m := m.gr b43; clear b43)); try simp only [Act.put, List.setIfInBounds_toArray, List.set_cons_succ, List.set_cons_zero])
    go_ret
    exact ⟨rfl, m.below⟩
  · have E0 : Hid (decide (b = 0) = false) := decide_eq_false h0
    obtain ⟨q, eq⟩ : ∃ x, a / b = x := ⟨_, rfl⟩
    obtain ⟨r, er⟩ : ∃ x, a % b = x := ⟨_, rfl⟩
    have hr : r < b := by rw [← er]; exact Nat.mod_lt _ (by omega)
    have hqr : q * b + r = a := by rw [← eq, ← er, Nat.mul_comm]; exact Nat.div_add_mod a b
    have hqM : q < M := by rw [← eq]; exact Nat.lt_of_le_of_lt (Nat.div_le_self _ _) e0
    have hqb : q * b < M := by omega
    obtain ⟨lo, elo⟩ : ∃ x, q * b = x := ⟨_, rfl⟩
    obtain ⟨x, ex⟩ : ∃ x, a * b % M = x := ⟨_, rfl⟩
    obtain ⟨y, ey⟩ : ∃ x, a * b / M = x := ⟨_, rfl⟩
    have hyM : y < M := by
      rw [← ey, Nat.div_lt_iff_lt_mul (by decide)]
      exact Nat.lt_of_le_of_lt (Nat.mul_le_mul_left a (Nat.le_of_lt e1)) (Nat.mul_lt_mul_of_pos_right e0 (by decide))
    have H3 : Hid (∀ w, Calls Tryd.prog 23 #[wv a, wv b] w fun e w' => e = .returned ((.tuple #[wv q, wv r, .int .i64 0])) ∧ Below w.heap.size w w') := fun w => by have := div_any a b e0 e1 w; rw [if_neg h0, if_neg h0, eq, er] at this; exact this
    have H4 : Hid (∀ w, Calls Tryd.prog 21 #[wv q, wv b] w fun e w' => e = .returned ((.tuple #[wv lo, wv 0])) ∧ Below w.heap.size w w') := fun w => by have := mul_any q b hqM e1 w; rw [Nat.mod_eq_of_lt hqb, Nat.div_eq_of_lt hqb, elo] at this; exact this
    have H5 : Hid (∀ w, Calls Tryd.prog 11 #[wv lo, wv r] w fun e w' => e = .returned ((.tuple #[wv a, .int .u64 0])) ∧ Below w.heap.size w w') := fun w => by
      have := add_any lo r (elo ▸ hqb) (by omega) w; rw [show lo + r = a by omega, Nat.mod_eq_of_lt e0, Nat.div_eq_of_lt e0] at this; exact this
    have H6 : Hid (∀ w, Calls Tryd.prog 21 #[wv a, wv b] w fun e w' => e = .returned ((.tuple #[wv x, wv y])) ∧ Below w.heap.size w w') := fun w => by have := mul_any a b e0 e1 w; rw [ex, ey] at this; exact this
    have H7 : Hid (∀ w, Calls Tryd.prog 25 #[wv y, wv x, wv b] w fun e w' => e = .returned ((.tuple #[wv 0, .int .i64 0])) ∧ Below w.heap.size w w') := fun w => by
      have := rem_any y x b hyM (ex ▸ Nat.mod_lt _ (by decide)) e1 w
      have e : (y * M + x) % b = 0 := by rw [← ex, ← ey, Nat.mul_comm, Nat.div_add_mod, Nat.mul_mod_left]
      rw [if_neg h0, if_neg h0, e] at this; exact this
    have H8 : Hid (∀ w, Calls Tryd.prog 16 #[wv r, wv b] w fun e w' => e = .returned (.int .i64 (-1)) ∧ Below w.heap.size w w') := fun w => by
      have := cmp_any r b (by omega) e1 w
      have e : cmpN r b = -1 := by unfold cmpN; rw [if_neg (by omega), if_pos hr]
      rw [e] at this; exact this
    clear h0 es ec hsM e0 e1 ht eq er hr hqr hqM hqb elo ex ey hyM
    have m := Mem.start w
    go_enter Tryd.func8, Tryd.ntmps8
    go_wp2_with ((first
      | (refine W.box m rfl (.tmp 0) rfl a rfl ?_; clear m; intro g2 wx2 m)
      | (refine W.box m rfl (.tmp 1) rfl b rfl ?_; clear m; intro g3 wx3 m)
      | (refine W.load m rfl (.tmp 2) rfl 1 rfl rfl ?_)
      | (refine W.load m rfl (.tmp 3) rfl 0 rfl rfl ?_)
      | (go_at_call 11; refine (H1.out _).mono ?_; rintro e wx23 ⟨rfl, b23⟩; replace m := m.gr b23; clear b23 H1)
      | (refine W.alloc m rfl rfl 5 rfl ?_; clear m; intro g5 wx5 m)
      | (refine W.store m rfl (.tmp 5) (.tmp 24) rfl rfl 0 s rfl (w4_length _) rfl rfl ?_; clear m; intro wx101 m)
      | (refine W.load m rfl (.tmp 5) rfl 0 rfl rfl ?_)
      | (refine W.load m rfl (.tmp 3) rfl 1 rfl rfl ?_)
      | (go_at_call 13; refine (H2.out _).mono ?_; rintro e wx29 ⟨rfl, b29⟩; replace m := m.gr b29; clear b29 H2)
      | (refine W.alloc m rfl rfl 7 rfl ?_; clear m; intro g7 wx7 m)
      | (refine W.store m rfl (.tmp 7) (.tmp 30) rfl rfl 0 a rfl (w4_length _) rfl rfl ?_; clear m; intro wx102 m)
      | (refine W.load m rfl (.tmp 7) rfl 0 rfl rfl ?_)
      | (refine W.load m rfl (.tmp 2) rfl 3 rfl rfl ?_)
      | (refine wpList_val rfl (.bool false) (W.exec_neq (.tmp 32) (.tmp 33) _ rfl a a false La.out La.out (by simp) rfl rfl) ?_)
      | (refine W.load m rfl (.tmp 3) rfl 2 rfl rfl ?_)
      | (refine W.build0 rfl rfl ?_)
      | (refine W.eql rfl (.tmp 40) (.tmp 41) _ rfl b 0 false Lb.out L0.out E0.out rfl rfl ?_)
      | (refine W.load m rfl (.tmp 2) rfl 3 rfl rfl ?_)
      | (refine W.load m rfl (.tmp 3) rfl 2 rfl rfl ?_)
      | (go_at_call 23; refine (H3.out _).mono ?_; rintro e wx47 ⟨rfl, b47⟩; replace m := m.gr b47; clear b47 H3)
      | (refine W.alloc m rfl rfl 9 rfl ?_; clear m; intro g9 wx9 m)
      | (refine W.alloc m rfl rfl 10 rfl ?_; clear m; intro g10 wx10 m)
      | (refine W.store m rfl (.tmp 9) (.tmp 48) rfl rfl 1 q rfl (w4_length _) rfl rfl ?_; clear m; intro wx103 m)
      | (refine W.store m rfl (.tmp 10) (.tmp 49) rfl rfl 0 r rfl (w4_length _) rfl rfl ?_; clear m; intro wx104 m)
      | (refine W.load m rfl (.tmp 9) rfl 1 rfl rfl ?_)
      | (refine W.load m rfl (.tmp 3) rfl 4 rfl rfl ?_)
      | (go_at_call 21; refine (H4.out _).mono ?_; rintro e wx54 ⟨rfl, b54⟩; replace m := m.gr b54; clear b54 H4)
      | (refine W.alloc m rfl rfl 12 rfl ?_; clear m; intro g12 wx12 m)
      | (refine W.alloc m rfl rfl 13 rfl ?_; clear m; intro g13 wx13 m)
      | (refine W.store m rfl (.tmp 12) (.tmp 55) rfl rfl 1 lo rfl (w4_length _) rfl rfl ?_; clear m; intro wx105 m)
      | (refine W.store m rfl (.tmp 13) (.tmp 56) rfl rfl 0 0 rfl (w4_length _) rfl rfl ?_; clear m; intro wx106 m)
      | (refine W.load m rfl (.tmp 12) rfl 1 rfl rfl ?_)
      | (refine W.load m rfl (.tmp 10) rfl 2 rfl rfl ?_)
      | (go_at_call 11; refine (H5.out _).mono ?_; rintro e wx60 ⟨rfl, b60⟩; replace m := m.gr b60; clear b60 H5)
      | (refine W.alloc m rfl rfl 14 rfl ?_; clear m; intro g14 wx14 m)
      | (refine W.store m rfl (.tmp 14) (.tmp 61) rfl rfl 0 a rfl (w4_length _) rfl rfl ?_; clear m; intro wx107 m)
      | (refine W.load m rfl (.tmp 2) rfl 8 rfl rfl ?_)
      | (refine W.load m rfl (.tmp 3) rfl 7 rfl rfl ?_)
      | (go_at_call 21; refine (H6.out _).mono ?_; rintro e wx66 ⟨rfl, b66⟩; replace m := m.gr b66; clear b66 H6)
      | (refine W.alloc m rfl rfl 16 rfl ?_; clear m; intro g16 wx16 m)
      | (refine W.alloc m rfl rfl 17 rfl ?_; clear m; intro g17 wx17 m)
      | (refine W.store m rfl (.tmp 16) (.tmp 67) rfl rfl 1 x rfl (w4_length _) rfl rfl ?_; clear m; intro wx108 m)
      | (refine W.store m rfl (.tmp 17) (.tmp 68) rfl rfl 0 y rfl (w4_length _) rfl rfl ?_; clear m; intro wx109 m)
      | (refine W.load m rfl (.tmp 17) rfl 0 rfl rfl ?_)
      | (refine W.load m rfl (.tmp 16) rfl 1 rfl rfl ?_)
      | (refine W.load m rfl (.tmp 3) rfl 9 rfl rfl ?_)
      | (go_at_call 25; refine (H7.out _).mono ?_; rintro e wx73 ⟨rfl, b73⟩; replace m := m.gr b73; clear b73 H7)
      | (refine W.alloc m rfl rfl 18 rfl ?_; clear m; intro g18 wx18 m)
      | (refine W.store m rfl (.tmp 18) (.tmp 74) rfl rfl 0 0 rfl (w4_length _) rfl rfl ?_; clear m; intro wx110 m)
      | (go_at_call 15; refine (HAl.out _ m.below).mono ?_; rintro e wx43 ⟨rfl, b43⟩; replace m := m.gr b43; clear b43)
      | (refine wpList_valG rfl (wv 0) (W.xload m (Gr.refl _) (.tmp 13) rfl 4 rfl rfl) ?_)
      | (refine wpList_valG rfl (wv 0) (W.xbuild0 rfl) ?_)
      | (refine wpList_valG rfl (.bool true) (W.exec_eql (.tmp 82) (.tmp 83) _ rfl 0 0 true L0.out L0.out (by decide) rfl rfl) ?_)
      | (refine wpList_valG rfl (wv a) (W.xload m (Gr.refl _) (.tmp 14) rfl 3 rfl rfl) ?_)
      | (refine wpList_valG rfl (wv a) (W.xload m (Gr.refl _) (.tmp 2) rfl 11 rfl rfl) ?_)
      | (refine wpList_valG rfl (.bool true) (W.exec_eql (.tmp 87) (.tmp 88) _ rfl a a true La.out La.out (by simp) rfl rfl) ?_)
      | (refine wpList_valG rfl (wv r) (W.xload m (Gr.refl _) (.tmp 10) rfl 6 rfl rfl) ?_)
      | (refine wpList_valG rfl (wv b) (W.xload m (Gr.refl _) (.tmp 3) rfl 10 rfl rfl) ?_)
      | (go_at_call 16; refine (H8.out _).mono ?_; rintro e wx98 ⟨rfl, b98⟩; replace m := m.gr b98; clear b98 H8)
      | (refine wpList_valG rfl (wv 0) (W.xload m (Gr.refl _) (.tmp 18) rfl 0 rfl rfl) ?_)
      | (refine wpList_valG rfl (wv 0) (W.xbuild0 rfl) ?_)
      | (refine wpList_valG rfl (.bool true) (W.exec_eql (.tmp 102) (.tmp 103) _ rfl 0 0 true L0.out L0.out (by decide) rfl rfl) ?_)); try simp only [Act.put, List.setIfInBounds_toArray, List.set_cons_succ, List.set_cons_zero])
    go_ret
    exact ⟨rfl, m.below⟩

theorem contract (H : Type) (enc : TypeId × Value → H) (W : World) (base : Nat) (args : Array Value) (ds gs : List (DataW H)) (before : List MemPlace)
    (hval0 : ∀ (j : Nat) t v, Tryd.f8.params[j]? = some t → args[j]? = some v → Value.okWide Tryd.prog W .any base t v)
    (hW : DataW.Whole enc Tryd.prog Tryd.f8.params.toList Rows.wideUndoneSpec.vars false W args.toList ds gs before) (hL : laidMetH Tryd.prog Rows.wideUndoneRow.laid W) :
    Calls Tryd.prog 8 args W fun e W' => ∃ v, e = .returned v ∧ Rows.wideUndoneSpec.post enc Tryd.prog Tryd.f8 false true false false W args v W' := by
  have hval : ∀ (j : Nat) t v, Tryd.f8.params[j]? = some t → args[j]? = some v → Value.okWide Tryd.prog W .any base t v := hval0
  have hW' := hW
  obtain ⟨p, q, hA0, hV, rfl, hfz, hnd⟩ := hW
  have hA : DataW.TrodAll enc Tryd.prog W 0 (fun _ => true) true Tryd.f8.params.toList args.toList ds p := hA0
  rw [Tryd.params8] at hA hval
  obtain ⟨v0, vs0, d0, ds0, p0, q0, hargs, rfl, rfl, h0, r0⟩ := trodAll_cons hA
  obtain ⟨v1, vs1, d1, ds1, p1, q1, rfl, rfl, rfl, h1, r1⟩ := trodAll_cons r0
  obtain ⟨rfl, rfl, rfl⟩ := trodAll_nil r1
  obtain rfl : args = #[v0, v1] := by cases args; simp_all
  obtain ⟨rfl, rfl⟩ := trodVars_none hV
  have k0 := h0
  have lt0 : ∀ x ∈ p0, x.block < W.heap.size := by obtain ⟨m, hm⟩ := k0; exact DataW.trod_lt m _ _ _ hm
  obtain ⟨l0, e0, rfl⟩ := open_wide (hval 0 24 v0 rfl rfl) h0
  have k1 := h1
  have lt1 : ∀ x ∈ p1, x.block < W.heap.size := by obtain ⟨m, hm⟩ := k1; exact DataW.trod_lt m _ _ _ hm
  obtain ⟨l1, e1, rfl⟩ := open_wide (hval 1 24 v1 rfl rfl) h1
  clear hA0 hval0
  refine (walk l0 l1 W e0 e1 (facts_of hL)).mono fun e W' ⟨he, bel⟩ => ?_
  subst he
  exact ⟨_, rfl, _, _, _, [], _, [], hW', trodAll_mk1 (shut_bool Tryd.underlying4 _), (trodAll_cons_mk (Below.trod laidOut (by kernel_rfl) (of_decide_eq_true (by kernel_rfl)) k0 bel lt0) (trodAll_cons_mk (Below.trod laidOut (by kernel_rfl) (of_decide_eq_true (by kernel_rfl)) k1 bel lt1) trodAll_mk0)), rfl, bel.frame _, fun h => by cases h⟩

theorem laid_met (os : Os) : laidMet Tryd.prog Rows.wideUndoneRow.laid ((laidWorld os).forCall (fun _ _ => 0) ⟨#[], #[.agg #[.int .u64 0, .int .u64 0, .int .u64 0, .int .u64 0], .agg #[.int .u64 0, .int .u64 0, .int .u64 0, .int .u64 0]], []⟩).memory :=
  laidMet_of_run' 8 (by kernel_rfl) (by kernel_rfl)
theorem reads (os : Os) {H : Type} (enc : TypeId × Value → H) : ∃ places, DataW.whole enc Tryd.prog ((laidWorld os).forCall (fun _ _ => 0) ⟨#[], #[.agg #[.int .u64 0, .int .u64 0, .int .u64 0, .int .u64 0], .agg #[.int .u64 0, .int .u64 0, .int .u64 0, .int .u64 0]], []⟩).memory Tryd.f8.params.toList Rows.wideUndoneSpec.vars false (#[.agg #[.int .u64 0, .int .u64 0, .int .u64 0, .int .u64 0], .agg #[.int .u64 0, .int .u64 0, .int .u64 0, .int .u64 0]] : Array Value).toList 8 = some ([.agg [.lit (.int .u64 0), .lit (.int .u64 0), .lit (.int .u64 0), .lit (.int .u64 0)], .agg [.lit (.int .u64 0), .lit (.int .u64 0), .lit (.int .u64 0), .lit (.int .u64 0)]], [], places) :=
  ⟨[], by kernel_rfl⟩

set_option maxRecDepth 100000 in
theorem lifted (os : Os) (started : os.Started) (H : Type) (enc : TypeId × Value → H) (F : Stop.Interp) :
    ReturnsInHanded {} Tryd.checked os 8 .any ((OpenSpec.ofChange Rows.wideUndoneSpec).preRow enc Tryd.prog Tryd.f8 Rows.wideUndoneRow.domain false Rows.wideUndoneRow.laid) (((OpenSpec.ofChange Rows.wideUndoneSpec).at F).post enc Tryd.prog Tryd.f8 false true false false) := by
  obtain ⟨places, hx⟩ := reads os enc
  refine returnsInHanded_of_row (C := Tryd.checked) (s := OpenSpec.ofChange Rows.wideUndoneSpec) own started (by kernel_rfl) Tryd.func8
    (witness_row_at (enc := enc) (C := Tryd.checked) false (laidWorld os) #[.agg #[.int .u64 0, .int .u64 0, .int .u64 0, .int .u64 0], .agg #[.int .u64 0, .int .u64 0, .int .u64 0, .int .u64 0]] rfl (by kernel_rfl) (by kernel_rfl) (by kernel_rfl)
      (OpenSpec.preRow_of_cond 8 hx (by kernel_rfl) (fun k hk => by cases hk) (by kernel_rfl) (laid_met os))) ?_
  intro W base args ds gs before hval hW _ _ _ hL _ _
  exact contract H enc W base args ds gs before hval hW hL

theorem said : Rows.WideUndoneSaid :=
  OpenClaim.holds_of_cond 8 Tryd.f8 rfl rfl rfl rfl rfl rfl rfl ⟨rfl, rfl, rfl, rfl, rfl⟩ rfl rfl rfl rfl rfl (by kernel_rfl) Tryd.func8 (by kernel_rfl)
    (of_decide_eq_true (by kernel_rfl)) (by unfold Func.isWrapper; first | (rw [if_pos (by decide +kernel)]; kernel_rfl) | (rw [if_neg (by decide +kernel)]; exact ⟨rfl, rfl⟩))
    (fun os started H enc _ F => by rw [OpenClaim.pre_eq_preRow]; exact lifted os started H enc F)

theorem plain (f : FuncId) (fn : Func) (hf : Tryd.pinned.checked.prog.funcNamed "entail/entaillaw06.WideUndone" = some f) (hfn : Tryd.pinned.checked.prog.funcs[f]? = some fn) :
    false = Tryd.pinned.checked.prog.looks [] ∧ ∀ (j : Nat) t, fn.params[j]? = some t → Tryd.pinned.checked.prog.wantsStandIn t = false := by
  obtain rfl : f = 8 := Option.some.inj ((show Tryd.prog.funcNamed "entail/entaillaw06.WideUndone" = some 8 by kernel_rfl).symm.trans hf) |>.symm
  obtain rfl : fn = Tryd.f8 := (Option.some.inj (Tryd.func8.symm.trans hfn)).symm
  refine ⟨by kernel_rfl, fun j t ht => ?_⟩
  rw [Tryd.params8] at ht
  have hm := Array.mem_of_getElem? ht
  simp at hm
  rcases hm with rfl
  all_goals first | exact (show Tryd.prog.wantsStandIn 24 = false by kernel_rfl)

/-- The statement. -/
theorem proved : Rows.WideUndoneCardSaid :=
  Claim7.holds_tied_plain_at .later [] _ _ _ _ said (fun _ h => by cases h) (by kernel_rfl) (fun _ h => by cases h) wideUndone_row_tie rfl ⟨rfl, rfl⟩ (by kernel_rfl) rfl plain (by kernel_rfl)
#print axioms proved
end Go.Proofs.YtijghhecclaafaaDoor.wideUndone
