/-
  Contracts of package wide's divide, Div, Rem.
  Conditions: numbers below 2^256.
-/
import Derived.Test.YtijghhecclaafaaDoorV10
import Derived.Test.YtijghhecclaafaaDoorV5
import Derived.Test.YtijghhecclaafaaDoorV6
namespace Go.Proofs.YtijghhecclaafaaDoor
open Go.RowKit

theorem rem_two (a b d K : Nat) : (a % d * K + b) % d = (a * K + b) % d := by rw [Nat.add_mod, Nat.mul_mod, Nat.mod_mod, ← Nat.mul_mod, ← Nat.add_mod]
theorem shl_nat (a s : Nat) (ha : a < M) (hs : s ≤ 256) (w : World) : Calls Tryd.prog 27 #[wv a, .int .i64 (s : Int)] w fun e w' => e = .returned (wv (a * 2 ^ s % M)) ∧ Below w.heap.size w w' := by
  have := shl_any a ha (s : Int) (by omega) w
  rw [Int.toNat_natCast] at this; exact this
theorem shr_nat (a s : Nat) (ha : a < M) (hs : s ≤ 256) (w : World) : Calls Tryd.prog 29 #[wv a, .int .i64 (s : Int)] w fun e w' => e = .returned (wv (a / 2 ^ s)) ∧ Below w.heap.size w w' := by
  have := shr_any a ha (s : Int) (by omega) w
  rw [Int.toNat_natCast] at this; exact this

set_option maxRecDepth 20000 in
set_option maxHeartbeats 2000000 in
theorem divide_any (hi lo d : Nat) (hd0 : d ≠ 0) (hd : d < M) (hh : hi < d) (hlo : lo < M) (w : World) :
    Calls Tryd.prog 47 #[wv hi, wv lo, wv d] w fun e w' => e = .returned (.tuple #[wv ((hi * M + lo) / d), wv ((hi * M + lo) % d)]) ∧ Below w.heap.size w w' := by
  obtain ⟨s, r, b, n, es, hs, hbs, en, hn, hn2, er, hr1, hr2, eb, hb, hrn, eq, erem, hX⟩ := shifted hi lo d hd0 hd hh hlo
  obtain ⟨L, eL⟩ : ∃ x, blen d = x := ⟨_, rfl⟩
  obtain ⟨hs', ehs⟩ : ∃ x, hi * 2 ^ s % M = x := ⟨_, rfl⟩
  obtain ⟨lq, elq⟩ : ∃ x, lo / 2 ^ (256 - s) = x := ⟨_, rfl⟩
  obtain ⟨u, eu⟩ : ∃ x, 256 - s = x := ⟨_, rfl⟩
  have HLen : Hid (∀ w, Calls Tryd.prog 18 #[wv d] w fun e w' => e = .returned (.int .i64 (L : Nat)) ∧ Below w.heap.size w w') := fun w => by have := len_any d hd w; rw [eL] at this; exact this
  have HShl : Hid (∀ w, Calls Tryd.prog 27 #[wv d, .int .i64 (s : Int)] w fun e w' => e = .returned (wv n) ∧ Below w.heap.size w w') := fun w => by have := shl_nat d s hd hs w; rw [en] at this; exact this
  have HShl2 : Hid (∀ w, Calls Tryd.prog 27 #[wv hi, .int .i64 (s : Int)] w fun e w' => e = .returned (wv hs') ∧ Below w.heap.size w w') := fun w => by have := shl_nat hi s (by omega) hs w; rw [ehs] at this; exact this
  have HShr : Hid (∀ w, Calls Tryd.prog 29 #[wv lo, .int .i64 (u : Int)] w fun e w' => e = .returned (wv lq) ∧ Below w.heap.size w w') := fun w => by have := shr_nat lo u hlo (by omega) w; rw [← eu, elq, eu] at this; exact this
  obtain ⟨c, ec⟩ : ∃ x, (hs' + lq) / M = x := ⟨_, rfl⟩
  have HAdd : Hid (∀ w, Calls Tryd.prog 11 #[wv hs', wv lq] w fun e w' => e = .returned ((.tuple #[wv r, .int .u64 (c : Nat)])) ∧ Below w.heap.size w w') := fun w => by
    have := add_any hs' lq (ehs ▸ hr1) (elq ▸ hr2) w; rw [ec] at this; rw [ehs, elq] at er; rw [er] at this; exact this
  have HShl3 : Hid (∀ w, Calls Tryd.prog 27 #[wv lo, .int .i64 (s : Int)] w fun e w' => e = .returned (wv b) ∧ Below w.heap.size w w') := fun w => by have := shl_nat lo s hlo hs w; rw [eb] at this; exact this
  have HS1 : Hid ((256 : Int) - (L : Int) = (s : Int) ∧ -9223372036854775808 ≤ (s : Int) ∧ (s : Int) < 9223372036854775808) := ⟨by omega, by omega, by omega⟩
  have HS2 : Hid ((256 : Int) - (s : Int) = (u : Int) ∧ -9223372036854775808 ≤ (u : Int) ∧ (u : Int) < 9223372036854775808) := ⟨by omega, by omega, by omega⟩
  obtain ⟨ed1, ed2⟩ := dvS_all r b n hb (by omega) hrn
  have HW : Hid (∀ (k y : Nat), y < 18446744073709551616 → ∀ w, Calls Tryd.prog 52 #[wv (dvS r (w4 b) n k).2, .int .u64 (y : Int), wv n] w fun e w' => e = .returned (.tuple #[.int .u64 ((((dvS r (w4 b) n k).2 * 18446744073709551616 + y) / n : Nat) : Int), wv (((dvS r (w4 b) n k).2 * 18446744073709551616 + y) % n)]) ∧ Below w.heap.size w w') := fun k y hy w => divideWord_any _ y n hn hn2 (dvS_lt r (w4 b) n k (by omega) hrn) hy w
  obtain ⟨Qn, eQn⟩ : ∃ x, (hi * M + lo) / d = x := ⟨_, rfl⟩
  obtain ⟨X, eX⟩ : ∃ x, (r * M + b) % n = x := ⟨_, rfl⟩
  obtain ⟨R, eR⟩ : ∃ x, (hi * M + lo) % d = x := ⟨_, rfl⟩
  rw [eQn, eR]
  have HD : Hid (dvS r (w4 b) n 4 = (w4 Qn, X)) := by rw [ed1, eq, eQn, eX]; exact rfl
  have HSh : Hid (∀ w, Calls Tryd.prog 29 #[wv X, .int .i64 (s : Int)] w fun e w' => e = .returned (wv R) ∧ Below w.heap.size w w') := fun w => by have := shr_nat X s (eX ▸ hX) hs w; rw [← eX, erem, eR, eX] at this; exact this
  have HL : Hid (∀ i, gw (w4 b) i < 18446744073709551616) := gw_lt b
  clear es hbs en hn hn2 er hr1 hr2 eb hb hrn eq erem hX eL ehs elq eu ec ed1 ed2 eQn eX eR hd0 hd hh hlo hs
  revert HShl2 HAdd
  generalize hs' = hs
  intro HShl2 HAdd
  have m := Mem.start w
  go_enter Tryd.func47, Tryd.ntmps47
  go_wp2_with ((first
    | (refine W.box m rfl (.tmp 0) rfl hi rfl ?_; clear m; intro g3 wx3 m)
    | (refine W.box m rfl (.tmp 1) rfl lo rfl ?_; clear m; intro g4 wx4 m)
    | (refine W.box m rfl (.tmp 2) rfl d rfl ?_; clear m; intro g5 wx5 m)
    | (refine W.alloc m rfl rfl 6 rfl ?_; clear m; intro g6 wx6 m)
    | (refine W.alloc m rfl rfl 7 rfl ?_; clear m; intro g7 wx7 m)
    | (refine W.load m rfl (.tmp 5) rfl 2 rfl rfl ?_)
    | (go_at_call 18; refine (HLen.out _).mono ?_; rintro e wx14 ⟨rfl, b14⟩; replace m := m.gr b14; clear b14)
    | (refine wpList_val rfl (.int .i64 (s : Int)) (exec_subI (.const (.int .i64 256)) (.tmp 14) _ _ rfl 256 L s HS1.out.1 HS1.out.2.1 HS1.out.2.2 rfl rfl) ?_)
    | (refine W.load m rfl (.tmp 5) rfl 2 rfl rfl ?_)
    | (go_at_call 27; refine (HShl.out _).mono ?_; rintro e wx18 ⟨rfl, b18⟩; replace m := m.gr b18; clear b18)
    | (refine W.store m rfl (.tmp 5) (.tmp 18) rfl rfl 2 n rfl (w4_length _) rfl rfl ?_; clear m; intro wx101 m)); try simp only [Act.put, List.setIfInBounds_toArray, List.set_cons_succ, List.set_cons_zero])
  have F := N_fit 24 wx101 (c64 (w4 0)) (c64 (w4 r)) (fun f _ v _ => (f = 27 → v = wv hs) ∧ (f = 29 → v = wv lq) ∧ (f = 11 → v = .tuple #[wv r, .int .u64 (c : Nat)])) (fun _ _ _ _ _ h => h)
  refine Mild2.wp_region F (by kernel_rfl) (by kernel_rfl) (Vw.draw _) ?_
  refine Mild2.step_known F rfl rfl (wv hi) (fun w0 hC _ => W.newload m hC (.tmp 3) rfl 4 rfl rfl) ?_
  simp only [Act.put, List.setIfInBounds_toArray, List.set_cons_succ, List.set_cons_zero]
  iterate 1 (refine Mild2.step_quiet F rfl rfl rfl (fun w0 hC hF K hK => ?_); clear hF; go_big_quiet_op; refine hK _ ?_; clear hK K hC; clear w0)
  refine Mild2.step_callv rfl rfl (27) (#[wv hi, .int .i64 (s : Int)]) (wv hs) (fun w => by go_simp) (fun w0 hC => HShl2.out w0) (fun _ _ h => Vw.of_gr h) (fun _ => ⟨fun _ => rfl, fun h => absurd h (by decide), fun h => absurd h (by decide)⟩) (fun _ _ h => h.1 rfl) ?_
  simp only [Act.put, List.setIfInBounds_toArray, List.set_cons_succ, List.set_cons_zero]
  refine Mild2.step_known F rfl rfl (wv lo) (fun w0 hC _ => W.newload m hC (.tmp 4) rfl 3 rfl rfl) ?_
  simp only [Act.put, List.setIfInBounds_toArray, List.set_cons_succ, List.set_cons_zero]
  iterate 1 (refine Mild2.step_quiet F rfl rfl rfl (fun w0 hC hF K hK => ?_); clear hF; go_big_quiet_op; refine hK _ ?_; clear hK K hC; clear w0)
  refine Mild2.step_known F rfl rfl (.int .i64 (u : Int)) (fun w0 hC _ => exec_subI (.const (.int .i64 256)) (.tmp 24) _ _ rfl 256 s u HS2.out.1 HS2.out.2.1 HS2.out.2.2 rfl rfl) ?_
  simp only [Act.put, List.setIfInBounds_toArray, List.set_cons_succ, List.set_cons_zero]
  refine Mild2.step_callv rfl rfl (29) (#[wv lo, .int .i64 (u : Int)]) (wv lq) (fun w => by go_simp) (fun w0 hC => HShr.out w0) (fun _ _ h => Vw.of_gr h) (fun _ => ⟨fun h => absurd h (by decide), fun _ => rfl, fun h => absurd h (by decide)⟩) (fun _ _ h => h.2.1 rfl) ?_
  simp only [Act.put, List.setIfInBounds_toArray, List.set_cons_succ, List.set_cons_zero]
  refine Mild2.step_callv rfl rfl (11) (#[wv hs, wv lq]) (.tuple #[wv r, .int .u64 (c : Nat)]) (fun w => by go_simp) (fun w0 hC => HAdd.out w0) (fun _ _ h => Vw.of_gr h) (fun _ => ⟨fun h => absurd h (by decide), fun h => absurd h (by decide), fun _ => rfl⟩) (fun _ _ h => h.2.2 rfl) ?_
  simp only [Act.put, List.setIfInBounds_toArray, List.set_cons_succ, List.set_cons_zero]
  iterate 3 (refine Mild2.step_quiet F rfl rfl rfl (fun w0 hC hF K hK => ?_); clear hF; go_big_quiet_op; refine hK _ ?_; clear hK K hC; clear w0)
  refine Mild2.step_new rfl rfl (NewB 24 wx101.heap.size (c64 (w4 0)) (c64 (w4 r))) (fun v => NewB.stab v) (fun w0 hC _ => W.newalloc hC rfl) ?_
  rintro _ ⟨_, _, g9, rfl, hg9, _⟩
  simp only [Act.put, List.setIfInBounds_toArray, List.set_cons_succ, List.set_cons_zero]
  refine Mild2.step_note rfl rfl (fun w => Arr 24 w g9 (c64 (w4 r))) Vw.newN (fun w0 hC hF => W.newstore (.tmp 9) (.tmp 28) rfl g9 hg9 ((hF 9 (by simp [Oper.looksAt, Op.operands])).2 rfl) rfl rfl) ?_
  iterate 1 (refine Mild2.step_quiet F rfl rfl rfl (fun w0 hC hF K hK => ?_); clear hF; go_big_quiet_op; refine hK _ ?_; clear hK K hC; clear w0)
  intro w9 hw9 hf9
  replace m := m.doneN hw9 hg9 ((hf9 none).2 rfl)
  clear hf9 hw9 F hg9 HS2 HShl2 HShr HAdd
  go_wp2_with ((first
    | (refine W.load m rfl (.tmp 4) rfl 4 rfl rfl ?_)
    | (go_at_call 27; refine (HShl3.out _).mono ?_; rintro e wx32 ⟨rfl, b32⟩; replace m := m.gr b32; clear b32)
    | (refine W.store m rfl (.tmp 4) (.tmp 32) rfl rfl 4 b rfl (w4_length _) rfl rfl ?_; clear m; intro wx102 m)
    | (refine W.alloc m rfl rfl 11 rfl ?_; clear m; intro g11 wx11 m)); try simp only [Act.put, List.setIfInBounds_toArray, List.set_cons_succ, List.set_cons_zero])
  go_loopw [12] (fun i wr => ∃ k : Nat, k ≤ 4 ∧ i = .int .i64 (3 - (k : Int)) ∧ Mem w wr [⟨g11, 24, c64 ((dvS r (w4 b) n k).1)⟩, ⟨g9, 24, c64 (w4 ((dvS r (w4 b) n k).2))⟩, ⟨g7, 24, c64 (w4 0)⟩, ⟨g6, 24, c64 (w4 0)⟩, ⟨g5, 24, c64 (w4 n)⟩, ⟨g4, 24, c64 (w4 b)⟩, ⟨g3, 24, c64 (w4 hi)⟩]) (fun i _ => (intOf i + 1).toNat)
  case atStart => exact ⟨0, by omega, rfl, by simp only [dvS]; rw [← w4_zero]; exact m⟩
  case round =>
    clear m
    obtain ⟨k, hk, hi', m⟩ := hrel
    by_cases hlt : k < 4
    · obtain ⟨j, ej⟩ : ∃ j, 3 - k = j := ⟨_, rfl⟩
      have hj : j < 4 := by omega
      have hi2 : _ = Value.int .i64 (j : Int) := hi'.trans (by congr 1; omega)
      subst hi2
      have hw := HW.out k (gw (w4 b) j) (HL.out j)
      obtain ⟨y, ey⟩ : ∃ y, gw (w4 b) j = y := ⟨_, rfl⟩
      have e1 : (dvS r (w4 b) n (k + 1)).1 = (dvS r (w4 b) n k).1.set j (((dvS r (w4 b) n k).2 * 18446744073709551616 + y) / n) := by rw [← ey, ← ej]; rfl
      have e2 : (dvS r (w4 b) n (k + 1)).2 = ((dvS r (w4 b) n k).2 * 18446744073709551616 + y) % n := by rw [← ey, ← ej]; rfl
      rw [ey] at hw
      have hQ := dvS_length r (w4 b) n k
      obtain ⟨Q, eQ⟩ : ∃ x, (dvS r (w4 b) n k).1 = x := ⟨_, rfl⟩
      obtain ⟨x, ex⟩ : ∃ x, (dvS r (w4 b) n k).2 = x := ⟨_, rfl⟩
      rw [eQ] at e1 hQ m
      rw [ex] at e1 e2 hw m
      obtain ⟨q, eq⟩ : ∃ z, (x * 18446744073709551616 + y) / n = z := ⟨_, rfl⟩
      obtain ⟨x', ex'⟩ : ∃ z, (x * 18446744073709551616 + y) % n = z := ⟨_, rfl⟩
      rw [eq] at e1 hw
      rw [ex'] at e2 hw
      obtain ⟨Q', eQ'⟩ : ∃ z, Q.set j q = z := ⟨_, rfl⟩
      rw [eQ'] at e1
      have HDW : Hid (∀ w, Calls Tryd.prog 52 #[wv x, .int .u64 (y : Int), wv n] w fun e w' => e = .returned (.tuple #[.int .u64 (q : Int), wv x']) ∧ Below w.heap.size w w') := hw
      have HY : Hid (gw (w4 b) j = y) := ey
      have HQ : Hid (Q.set j q = Q') := eQ'
      have HX : Hid ((dvS r (w4 b) n (k + 1)).1 = Q' ∧ (dvS r (w4 b) n (k + 1)).2 = x') := ⟨e1, e2⟩
      have HJ1 : Hid ((j : Int) - 1 = 3 - ((k + 1 : Nat) : Int)) := by show _ = _; omega
      clear hw e1 e2 eQ ex eq ex' eQ' ej hi' ey HW HD
      go_wp2
      have F := M_fit 24 m (fun | 0 => some (c64 Q') | 1 => some (c64 (w4 x')) | _ => none) (fun f _ v _ => (f = 52 → v = .tuple #[.int .u64 (q : Nat), wv x'])) (fun _ _ _ _ _ h => h)
      refine Mild3.wp_region F (by kernel_rfl) (by kernel_rfl) (Below.drewN' _ _ 1) ?_
      iterate 1 (refine Mild3.step_quiet F rfl rfl rfl (by kernel_rfl) rfl (fun w0 hC hF K hK => ?_); clear hF; go_big_quiet_op; refine hK _ ?_; clear hK K hC; clear w0)
      refine Mild3.step_known F rfl rfl (by kernel_rfl) rfl (wv x) (fun w0 hC _ => W.xload m hC (.tmp 9) rfl 1 rfl rfl) ?_
      simp only [Act.put, List.setIfInBounds_toArray, List.set_cons_succ, List.set_cons_zero]
      iterate 1 (refine Mild3.step_quiet F rfl rfl rfl (by kernel_rfl) rfl (fun w0 hC hF K hK => ?_); clear hF; go_big_quiet_op; refine hK _ ?_; clear hK K hC; clear w0)
      refine Mild3.step_known F rfl rfl (by kernel_rfl) rfl (.pointer (some ⟨g4, j, none⟩)) (fun w0 hC _ => W.xidx (.tmp 4) (.tmp 40) rfl g4 j .i64 j rfl hj rfl rfl) ?_
      simp only [Act.put, List.setIfInBounds_toArray, List.set_cons_succ, List.set_cons_zero]
      refine Mild3.step_known F rfl rfl (by kernel_rfl) rfl (.int .u64 (y : Nat)) (fun w0 hC _ => W.xget m hC (.tmp 41) rfl 5 j y rfl (by rw [w4_length]; exact hj) HY.out rfl) ?_
      simp only [Act.put, List.setIfInBounds_toArray, List.set_cons_succ, List.set_cons_zero]
      refine Mild3.step_known F rfl rfl (by kernel_rfl) rfl (wv n) (fun w0 hC _ => W.xload m hC (.tmp 5) rfl 4 rfl rfl) ?_
      simp only [Act.put, List.setIfInBounds_toArray, List.set_cons_succ, List.set_cons_zero]
      refine Mild3.step_call F rfl rfl (by kernel_rfl) rfl (52) (#[wv x, .int .u64 (y : Int), wv n]) (.tuple #[.int .u64 (q : Nat), wv x']) (fun w => by go_simp) (fun w0 hC _ => HDW.out w0) (fun _ => fun _ => rfl) (fun _ _ h => h rfl) ?_
      simp only [Act.put, List.setIfInBounds_toArray, List.set_cons_succ, List.set_cons_zero]
      iterate 2 (refine Mild3.step_quiet F rfl rfl rfl (by kernel_rfl) rfl (fun w0 hC hF K hK => ?_); clear hF; go_big_quiet_op; refine hK _ ?_; clear hK K hC; clear w0)
      refine Mild3.step_pure F rfl rfl rfl (wv x') (fun w0 => exec_extract (.tmp 37) 1 rfl [.int .u64 (q : Nat), wv x'] _ rfl rfl) ?_
      simp only [Act.put, List.setIfInBounds_toArray, List.set_cons_succ, List.set_cons_zero]
      refine Mild3.step_known F rfl rfl (by kernel_rfl) rfl (.pointer (some ⟨g11, j, none⟩)) (fun w0 hC _ => W.xidx (.tmp 11) (.tmp 38) rfl g11 j .i64 j rfl hj rfl rfl) ?_
      simp only [Act.put, List.setIfInBounds_toArray, List.set_cons_succ, List.set_cons_zero]
      refine Mild3.step_note rfl rfl rfl (fun w => Arr 24 w g11 (c64 Q')) (m.note 0 rfl rfl) (fun w0 hC hF => W.xset m hC (.tmp 47) (.tmp 45) rfl 0 j q Q' HQ.out rfl (by rw [hQ]; exact hj) rfl rfl rfl) ?_
      refine Mild3.step_note rfl rfl rfl (fun w => Arr 24 w g9 (c64 (w4 x'))) (m.note 1 rfl rfl) (fun w0 hC hF => W.xstore m hC (.tmp 9) (.tmp 46) rfl 1 x' rfl (w4_length _) rfl rfl rfl) ?_
      intro w99 hw hf
      have m9 : Mem w w99 [⟨g11, 24, c64 Q'⟩, ⟨g9, 24, c64 (w4 x')⟩, ⟨g7, 24, c64 (w4 0)⟩, ⟨g6, 24, c64 (w4 0)⟩, ⟨g5, 24, c64 (w4 n)⟩, ⟨g4, 24, c64 (w4 b)⟩, ⟨g3, 24, c64 (w4 hi)⟩] := m.done hw rfl ⟨(hf none).1.2 rfl, (hf none).2 rfl, m.still hw 2 rfl rfl, m.still hw 3 rfl rfl, m.still hw 4 rfl rfl, m.still hw 5 rfl rfl, m.still hw 6 rfl rfl, trivial⟩
      clear hf hw F m
      go_wp2
      go_roundw
      case rel => exact ⟨k + 1, by omega, by rw [HJ1.out], by rw [HX.out.1, HX.out.2]; exact m9⟩
      case measure => have := HJ1.out; simp only [intOf]; omega
    · obtain rfl : k = 4 := by omega
      have hi2 : _ = Value.int .i64 (-1) := hi'.trans rfl
      subst hi2
      rw [HD.out] at m
      clear HW HD hi' hk hlt
      go_wp2
      have F := M_fit2 24 m (fun | 3 => some (c64 (w4 Qn)) | 2 => some (c64 (w4 R)) | _ => none) (fun f _ v _ => (f = 29 → v = wv R)) (fun _ _ _ _ _ h => h)
      refine Mild2.wp_region F (by kernel_rfl) (by kernel_rfl) (Vw.draw _) ?_
      refine Mild2.step_known F rfl rfl (wv Qn) (fun w0 hC _ => W.sload m hC (.tmp 11) rfl 0 rfl rfl rfl) ?_
      simp only [Act.put, List.setIfInBounds_toArray, List.set_cons_succ, List.set_cons_zero]
      refine Mild2.step_known F rfl rfl (wv X) (fun w0 hC _ => W.sload m hC (.tmp 9) rfl 1 rfl rfl rfl) ?_
      simp only [Act.put, List.setIfInBounds_toArray, List.set_cons_succ, List.set_cons_zero]
      iterate 1 (refine Mild2.step_quiet F rfl rfl rfl (fun w0 hC hF K hK => ?_); clear hF; go_big_quiet_op; refine hK _ ?_; clear hK K hC; clear w0)
      refine Mild2.step_callv rfl rfl (29) (#[wv X, .int .i64 (s : Int)]) (wv R) (fun w => by go_simp) (fun w0 hC => HSh.out w0) (fun _ _ h => Vw.of_gr h) (fun _ => fun _ => rfl) (fun _ _ h => h rfl) ?_
      simp only [Act.put, List.setIfInBounds_toArray, List.set_cons_succ, List.set_cons_zero]
      refine Mild2.step_note rfl rfl (fun w => Arr 24 w g6 (c64 (w4 Qn))) (m.note 3 rfl rfl) (fun w0 hC hF => W.xstore m hC (.tmp 6) (.tmp 48) rfl 3 Qn rfl (w4_length _) rfl rfl rfl) ?_
      refine Mild2.step_note rfl rfl (fun w => Arr 24 w g7 (c64 (w4 R))) (m.note 2 rfl rfl) (fun w0 hC hF => W.xstore m hC (.tmp 7) (.tmp 51) rfl 2 R rfl (w4_length _) rfl rfl rfl) ?_
      intro w99 hw hf
      have m9 : Mem w w99 [⟨g11, 24, c64 (w4 Qn)⟩, ⟨g9, 24, c64 (w4 X)⟩, ⟨g7, 24, c64 (w4 R)⟩, ⟨g6, 24, c64 (w4 Qn)⟩, ⟨g5, 24, c64 (w4 n)⟩, ⟨g4, 24, c64 (w4 b)⟩, ⟨g3, 24, c64 (w4 hi)⟩] := m.done hw rfl ⟨m.still hw 0 rfl rfl, m.still hw 1 rfl rfl, (hf none).2 rfl, (hf none).1.2 rfl, m.still hw 4 rfl rfl, m.still hw 5 rfl rfl, m.still hw 6 rfl rfl, trivial⟩
      clear hf hw F m
      go_wp2
      refine bodyPost_ret (results_arr_arr Tryd.aw Tryd.results47 _ w99 g6 g7 (c64 (w4 Qn)) (c64 (w4 R)) (wl Qn) (wl R) rfl rfl (m9.get 3 rfl) (m9.get 2 rfl)) rfl ⟨rfl, m9.below⟩

set_option maxHeartbeats 1000000 in
theorem div_any (a b : Nat) (ha : a < M) (hb : b < M) (w : World) :
    Calls Tryd.prog 23 #[wv a, wv b] w fun e w' => e = .returned (.tuple #[wv (a / b), wv (if b = 0 then 0 else a % b), .int .i64 (if b = 0 then 1 else 0)]) ∧ Below w.heap.size w w' := by
  have HA : Hid (b < M) := hb
  have HB : Hid (0 < M) := by show _ < _; decide
  by_cases h0 : b = 0
  · have HE : Hid (decide (b = 0) = true) := decide_eq_true h0
    rw [if_pos h0, if_pos h0]
    have HZ : Hid (a / b = 0) := by show _ = _; rw [h0, Nat.div_zero]
    rw [HZ.out]
    clear h0 ha hb HZ
    have m := Mem.start w
    go_enter Tryd.func23, Tryd.ntmps23
    go_wp2_with ((first
      | (refine W.box m rfl (.tmp 0) rfl a rfl ?_; clear m; intro g2 wx2 m)
      | (refine W.box m rfl (.tmp 1) rfl b rfl ?_; clear m; intro g3 wx3 m)
      | (refine W.alloc m rfl rfl 4 rfl ?_; clear m; intro g4 wx4 m)
      | (refine W.alloc m rfl rfl 5 rfl ?_; clear m; intro g5 wx5 m)
      | (refine W.load m rfl (.tmp 3) rfl 2 rfl rfl ?_)
      | (refine W.build0 rfl rfl ?_)
      | (refine W.eql rfl (.tmp 9) (.tmp 10) _ rfl b 0 true HA.out HB.out HE.out rfl rfl ?_)
      | (refine W.build0 rfl rfl ?_)
      | (refine W.build0 rfl rfl ?_)
      | (refine W.store m rfl (.tmp 4) (.tmp 12) rfl rfl 1 0 rfl (w4_length _) rfl rfl ?_; clear m; intro wx101 m)
      | (refine W.store m rfl (.tmp 5) (.tmp 13) rfl rfl 0 0 rfl (w4_length _) rfl rfl ?_; clear m; intro wx102 m)); try simp only [Act.put, List.setIfInBounds_toArray, List.set_cons_succ, List.set_cons_zero])
    refine bodyPost_ret (results_arr_arr_tmp Tryd.aw Tryd.results23 _ wx102 g4 g5 (c64 (w4 0)) (c64 (w4 0)) (wl 0) (wl 0) rfl rfl (m.get 1 rfl) (m.get 0 rfl)) rfl ⟨rfl, m.below⟩
  · have HE : Hid (decide (b = 0) = false) := decide_eq_false h0
    rw [if_neg h0, if_neg h0]
    obtain ⟨q, eq⟩ : ∃ q, a / b = q := ⟨_, rfl⟩
    obtain ⟨r, er⟩ : ∃ q, a % b = q := ⟨_, rfl⟩
    have HD : Hid (∀ w, Calls Tryd.prog 47 #[wv 0, wv a, wv b] w fun e w' => e = .returned ((.tuple #[wv q, wv r])) ∧ Below w.heap.size w w') := fun w => by have := divide_any 0 a b h0 hb (by omega) ha w; rw [Nat.zero_mul, Nat.zero_add, eq, er] at this; exact this
    rw [eq, er]
    clear h0 ha hb eq er
    have m := Mem.start w
    go_enter Tryd.func23, Tryd.ntmps23
    go_wp2_with ((first
      | (refine W.box m rfl (.tmp 0) rfl a rfl ?_; clear m; intro g2 wx2 m)
      | (refine W.box m rfl (.tmp 1) rfl b rfl ?_; clear m; intro g3 wx3 m)
      | (refine W.alloc m rfl rfl 4 rfl ?_; clear m; intro g4 wx4 m)
      | (refine W.alloc m rfl rfl 5 rfl ?_; clear m; intro g5 wx5 m)
      | (refine W.load m rfl (.tmp 3) rfl 2 rfl rfl ?_)
      | (refine W.build0 rfl rfl ?_)
      | (refine W.eql rfl (.tmp 9) (.tmp 10) _ rfl b 0 false HA.out HB.out HE.out rfl rfl ?_)
      | (refine W.build0 rfl rfl ?_)
      | (refine W.load m rfl (.tmp 2) rfl 3 rfl rfl ?_)
      | (refine W.load m rfl (.tmp 3) rfl 2 rfl rfl ?_)
      | (go_at_call 47; refine (HD.out _).mono ?_; rintro e wx18 ⟨rfl, b18⟩; replace m := m.gr b18; clear b18)
      | (refine W.alloc m rfl rfl 7 rfl ?_; clear m; intro g7 wx7 m)
      | (refine W.alloc m rfl rfl 8 rfl ?_; clear m; intro g8 wx8 m)
      | (refine W.store m rfl (.tmp 7) (.tmp 19) rfl rfl 1 q rfl (w4_length _) rfl rfl ?_; clear m; intro wx101 m)
      | (refine W.store m rfl (.tmp 8) (.tmp 20) rfl rfl 0 r rfl (w4_length _) rfl rfl ?_; clear m; intro wx102 m)); try simp only [Act.put, List.setIfInBounds_toArray, List.set_cons_succ, List.set_cons_zero])
    have F := M_fit2 24 m (fun | 3 => some (c64 (w4 q)) | 2 => some (c64 (w4 r)) | _ => none) (fun _ _ _ _ => False) (fun _ _ _ _ _ h => h)
    refine Mild2.wp_region F (by kernel_rfl) (by kernel_rfl) (Vw.draw _) ?_
    refine Mild2.step_known F rfl rfl (wv q) (fun w0 hC _ => W.sload m hC (.tmp 7) rfl 1 rfl rfl rfl) ?_
    simp only [Act.put, List.setIfInBounds_toArray, List.set_cons_succ, List.set_cons_zero]
    refine Mild2.step_known F rfl rfl (wv r) (fun w0 hC _ => W.sload m hC (.tmp 8) rfl 0 rfl rfl rfl) ?_
    simp only [Act.put, List.setIfInBounds_toArray, List.set_cons_succ, List.set_cons_zero]
    refine Mild2.step_note rfl rfl (fun w => Arr 24 w g4 (c64 (w4 q))) (m.note 3 rfl rfl) (fun w0 hC hF => W.xstore m hC (.tmp 4) (.tmp 21) rfl 3 q rfl (w4_length _) rfl rfl rfl) ?_
    refine Mild2.step_note rfl rfl (fun w => Arr 24 w g5 (c64 (w4 r))) (m.note 2 rfl rfl) (fun w0 hC hF => W.xstore m hC (.tmp 5) (.tmp 22) rfl 2 r rfl (w4_length _) rfl rfl rfl) ?_
    iterate 1 (refine Mild2.step_quiet F rfl rfl rfl (fun w0 hC hF K hK => ?_); clear hF; go_big_quiet_op; refine hK _ ?_; clear hK K hC; clear w0)
    intro w99 hw hf
    have m9 : Mem w w99 [⟨g8, 24, c64 (w4 r)⟩, ⟨g7, 24, c64 (w4 q)⟩, ⟨g5, 24, c64 (w4 r)⟩, ⟨g4, 24, c64 (w4 q)⟩, ⟨g3, 24, c64 (w4 b)⟩, ⟨g2, 24, c64 (w4 a)⟩] := m.done hw rfl ⟨m.still hw 0 rfl rfl, m.still hw 1 rfl rfl, (hf none).2 rfl, (hf none).1.2 rfl, m.still hw 4 rfl rfl, m.still hw 5 rfl rfl, trivial⟩
    clear hf hw F m
    go_wp2
    refine bodyPost_ret (results_arr_arr_tmp Tryd.aw Tryd.results23 _ w99 g4 g5 (c64 (w4 q)) (c64 (w4 r)) (wl q) (wl r) rfl rfl (m9.get 3 rfl) (m9.get 2 rfl)) rfl ⟨rfl, m9.below⟩

set_option maxHeartbeats 1000000 in
theorem rem_any (hi lo d : Nat) (hhi : hi < M) (hlo : lo < M) (hd : d < M) (w : World) :
    Calls Tryd.prog 25 #[wv hi, wv lo, wv d] w fun e w' => e = .returned (.tuple #[wv (if d = 0 then 0 else (hi * M + lo) % d), .int .i64 (if d = 0 then 1 else 0)]) ∧ Below w.heap.size w w' := by
  have HA : Hid (d < M) := hd
  have HB : Hid (0 < M) := by show _ < _; decide
  by_cases h0 : d = 0
  · have HE : Hid (decide (d = 0) = true) := decide_eq_true h0
    rw [if_pos h0, if_pos h0]
    clear h0 hhi hlo hd
    have m := Mem.start w
    go_enter Tryd.func25, Tryd.ntmps25
    go_wp2_with ((first
      | (refine W.box m rfl (.tmp 0) rfl hi rfl ?_; clear m; intro g3 wx3 m)
      | (refine W.box m rfl (.tmp 1) rfl lo rfl ?_; clear m; intro g4 wx4 m)
      | (refine W.box m rfl (.tmp 2) rfl d rfl ?_; clear m; intro g5 wx5 m)
      | (refine W.alloc m rfl rfl 6 rfl ?_; clear m; intro g6 wx6 m)
      | (refine W.load m rfl (.tmp 5) rfl 1 rfl rfl ?_)
      | (refine W.build0 rfl rfl ?_)
      | (refine W.eql rfl (.tmp 10) (.tmp 11) _ rfl d 0 true HA.out HB.out HE.out rfl rfl ?_)
      | (refine W.build0 rfl rfl ?_)
      | (refine W.store m rfl (.tmp 6) (.tmp 13) rfl rfl 0 0 rfl (w4_length _) rfl rfl ?_; clear m; intro wx101 m)); try simp only [Act.put, List.setIfInBounds_toArray, List.set_cons_succ, List.set_cons_zero])
    refine bodyPost_ret (results_arr_tmp Tryd.aw Tryd.results25 _ wx101 g6 (c64 (w4 0)) (wl 0) rfl (m.get 0 rfl)) rfl ⟨rfl, m.below⟩
  · have HE : Hid (decide (d = 0) = false) := decide_eq_false h0
    rw [if_neg h0, if_neg h0]
    obtain ⟨q1, eq1⟩ : ∃ q, hi / d = q := ⟨_, rfl⟩
    obtain ⟨h1, eh1⟩ : ∃ q, hi % d = q := ⟨_, rfl⟩
    obtain ⟨q2, eq2⟩ : ∃ q, (h1 * M + lo) / d = q := ⟨_, rfl⟩
    obtain ⟨r, er⟩ : ∃ q, (hi * M + lo) % d = q := ⟨_, rfl⟩
    have e3 : (h1 * M + lo) % d = r := by rw [← er, ← eh1]; exact rem_two hi lo d M
    have HD1 : Hid (∀ w, Calls Tryd.prog 47 #[wv 0, wv hi, wv d] w fun e w' => e = .returned ((.tuple #[wv q1, wv h1])) ∧ Below w.heap.size w w') := fun w => by have := divide_any 0 hi d h0 hd (by omega) hhi w; rw [Nat.zero_mul, Nat.zero_add, eq1, eh1] at this; exact this
    have HD2 : Hid (∀ w, Calls Tryd.prog 47 #[wv h1, wv lo, wv d] w fun e w' => e = .returned ((.tuple #[wv q2, wv r])) ∧ Below w.heap.size w w') := fun w => by have := divide_any h1 lo d h0 hd (eh1 ▸ Nat.mod_lt _ (by omega)) hlo w; rw [eq2, e3] at this; exact this
    rw [er]
    clear h0 hhi hlo hd eq1 eh1 eq2 er e3
    have m := Mem.start w
    go_enter Tryd.func25, Tryd.ntmps25
    go_wp2_with ((first
      | (refine W.box m rfl (.tmp 0) rfl hi rfl ?_; clear m; intro g3 wx3 m)
      | (refine W.box m rfl (.tmp 1) rfl lo rfl ?_; clear m; intro g4 wx4 m)
      | (refine W.box m rfl (.tmp 2) rfl d rfl ?_; clear m; intro g5 wx5 m)
      | (refine W.alloc m rfl rfl 6 rfl ?_; clear m; intro g6 wx6 m)
      | (refine W.load m rfl (.tmp 5) rfl 1 rfl rfl ?_)
      | (refine W.build0 rfl rfl ?_)
      | (refine W.eql rfl (.tmp 10) (.tmp 11) _ rfl d 0 false HA.out HB.out HE.out rfl rfl ?_)
      | (refine W.build0 rfl rfl ?_)
      | (refine W.load m rfl (.tmp 3) rfl 3 rfl rfl ?_)
      | (refine W.load m rfl (.tmp 5) rfl 1 rfl rfl ?_)
      | (go_at_call 47; refine (HD1.out _).mono ?_; rintro e wx18 ⟨rfl, b18⟩; replace m := m.gr b18; clear b18 HD1)
      | (refine W.store m rfl (.tmp 3) (.tmp 20) rfl rfl 3 h1 rfl (w4_length _) rfl rfl ?_; clear m; intro wx101 m)
      | (refine W.load m rfl (.tmp 3) rfl 3 rfl rfl ?_)
      | (refine W.load m rfl (.tmp 4) rfl 2 rfl rfl ?_)
      | (refine W.load m rfl (.tmp 5) rfl 1 rfl rfl ?_)
      | (go_at_call 47; refine (HD2.out _).mono ?_; rintro e wx25 ⟨rfl, b25⟩; replace m := m.gr b25; clear b25)
      | (refine W.alloc m rfl rfl 8 rfl ?_; clear m; intro g8 wx8 m)
      | (refine W.alloc m rfl rfl 9 rfl ?_; clear m; intro g9 wx9 m)
      | (refine W.store m rfl (.tmp 8) (.tmp 26) rfl rfl 1 q2 rfl (w4_length _) rfl rfl ?_; clear m; intro wx102 m)
      | (refine W.store m rfl (.tmp 9) (.tmp 27) rfl rfl 0 r rfl (w4_length _) rfl rfl ?_; clear m; intro wx103 m)
      | (refine W.load m rfl (.tmp 9) rfl 0 rfl rfl ?_)
      | (refine W.store m rfl (.tmp 6) (.tmp 28) rfl rfl 2 r rfl (w4_length _) rfl rfl ?_; clear m; intro wx104 m)); try simp only [Act.put, List.setIfInBounds_toArray, List.set_cons_succ, List.set_cons_zero])
    refine bodyPost_ret (results_arr_tmp Tryd.aw Tryd.results25 _ wx104 g6 (c64 (w4 r)) (wl r) rfl (m.get 2 rfl)) rfl ⟨rfl, m.below⟩
end Go.Proofs.YtijghhecclaafaaDoor
