/-
  Contract of the document's Whole.
  Conditions: digits below 2^16.
-/
import Derived.Test.YtpfoeeiacfadfaaV14
namespace Go.Proofs.Ytpfoeeiacfadfaa
open Go.RowKit

set_option maxRecDepth 20000 in
set_option maxHeartbeats 2000000 in
theorem whole_any (w : World) (g n cap : Nat) (l : List Nat) (junk : List Value) (f0 : Nat) (hn : l.length = n) (hr : Arr 22 w g (c64 l ++ junk)) (hf : f0 + 16 ≤ n) (hn2 : n ≤ 64) (hd : ∀ x ∈ l, x < 65536) :
    Calls Try.prog 73 #[.slice (some ⟨g, 0, none⟩) n cap, .int .i64 (f0 : Int)] w fun e w' => e = .returned (wv (nd ((l.drop f0).take 16))) ∧ Below w.heap.size w w' := by
  obtain ⟨N, hN, hwN, eN⟩ := whS_all (fun i => gw l (f0 + i)) (fun i => gw_lt16 hd _)
  rw [take16 l f0 (by omega)]
  rw [← eN]
  have HN : Hid (whS (fun i => gw l (f0 + i)) 16 = w4 N) := hwN
  have HCL0 : Hid (∀ j, j < n → ∀ w', Below w.heap.size w w' → w'.cell? ⟨g, j, none⟩ = some (.int .u64 (gw l j : Nat))) := fun j hj w' hb => row_cell (hr.below hb hr.lt) (by omega)
  clear hN hwN eN hr hd hn
  have m := Mem.start w
  go_enter Try.func73, Try.ntmps73
  go_wp2_with ((first
    | (refine W.alloc m rfl rfl 4 rfl ?_; clear m; intro g4 wx4 m)
    | (refine W.build0 rfl rfl ?_)
    | (refine W.alloc m rfl rfl 5 rfl ?_; clear m; intro g5 wx5 m)
    | (refine W.store m rfl (.tmp 5) (.tmp 8) rfl rfl 0 0 rfl (w4_length _) rfl rfl ?_; clear m; intro wx101 m)); try simp only [Act.put, List.setIfInBounds_toArray, List.set_cons_succ, List.set_cons_zero])
  go_loopw [6] (fun i wr => ∃ k : Nat, k ≤ 16 ∧ i = .int .i64 (15 - (k : Int)) ∧ Mem w wr [⟨g5, 24, c64 (whS (fun i => gw l (f0 + i)) k)⟩, ⟨g4, 24, c64 (w4 0)⟩]) (fun i _ => (intOf i + 1).toNat)
  case atStart => exact ⟨0, by omega, rfl, by simp only [whS]; rw [← w4_zero]; exact m⟩
  case round =>
    clear m
    obtain ⟨k, hk, hi, m⟩ := hrel
    by_cases hlt : k < 16
    · obtain ⟨j, ej⟩ : ∃ j, 15 - k = j := ⟨_, rfl⟩
      have hi2 : _ = Value.int .i64 (j : Int) := hi.trans (by congr 1; omega)
      subst hi2
      obtain ⟨p, ep⟩ : ∃ p, f0 + j = p := ⟨_, rfl⟩
      obtain ⟨q, eq⟩ : ∃ p, j / 4 = p := ⟨_, rfl⟩
      obtain ⟨x, ex⟩ : ∃ x, gw l p = x := ⟨_, rfl⟩
      have hQ := whS_length (fun i => gw l (f0 + i)) k
      have hst : whS (fun i => gw l (f0 + i)) (k + 1) = (whS (fun i => gw l (f0 + i)) k).set (j / 4) ((gw (whS (fun i => gw l (f0 + i)) k) (j / 4) * 65536 + gw l (f0 + j)) % 18446744073709551616) := by rw [← ej]; rfl
      obtain ⟨Q, eQ⟩ : ∃ Q, whS (fun i => gw l (f0 + i)) k = Q := ⟨_, rfl⟩
      rw [eQ] at hst hQ m
      rw [eq, ep, ex] at hst
      obtain ⟨y, ey⟩ : ∃ y, gw Q q = y := ⟨_, rfl⟩
      obtain ⟨u, eu⟩ : ∃ v, y * 65536 % 18446744073709551616 = v := ⟨_, rfl⟩
      obtain ⟨z, ez⟩ : ∃ y, (u + x) % 18446744073709551616 = y := ⟨_, rfl⟩
      rw [ey, ← Nat.mod_add_mod, eu, ez] at hst
      obtain ⟨Q', eQ'⟩ : ∃ y, Q.set q z = y := ⟨_, rfl⟩
      rw [eQ'] at hst
      have hq : q < 4 := by omega
      have hj15 : j < 16 := by omega
      have hpn : (p : Int) < (n : Int) := by omega
      have HPN : Hid (p < n) := by show _ < _; omega
      have HP : Hid ((f0 : Int) + (j : Int) = (p : Int) ∧ -9223372036854775808 ≤ (p : Int) ∧ (p : Int) < 9223372036854775808) := ⟨by omega, by omega, by omega⟩
      have HCL : Hid (∀ w', Below w.heap.size w w' → w'.cell? ⟨g, p, none⟩ = some (.int .u64 (x : Nat))) := fun w' hb => by have := HCL0.out p HPN.out w' hb; rw [ex] at this; exact this
      have HQ4 : Hid (j / 4 = q) := eq
      have HJ : Hid (j < 9223372036854775808) := by show _ < _; omega
      have H4 : Hid (4 ≠ 0) := by show _ ≠ _; decide
      have HY : Hid (gw Q q = y) := ey
      have HU : Hid (y * 65536 % 18446744073709551616 = u) := eu
      have HZ : Hid ((u + x) % 18446744073709551616 = z) := ez
      have HQS : Hid (Q.set q z = Q') := eQ'
      have HST : Hid (whS (fun i => gw l (f0 + i)) (k + 1) = Q') := hst
      have HJ1 : Hid ((j : Int) - 1 = 15 - ((k + 1 : Nat) : Int)) := by show _ = _; omega
      have hjn : ¬ ((j : Int) < 0) := by omega
      clear hst eQ ey eu ez eQ' ex ep eq ej hi hf hn2
      go_wp2_with ((first
        | (refine wpList_val rfl (.int .i64 (p : Int)) (exec_addI (.tmp 13) (.tmp 14) _ _ rfl f0 j p HP.out.1 HP.out.2.1 HP.out.2.2 rfl rfl) ?_)
        | (refine wpList_val rfl (.int .i64 (p : Int)) (exec_addI (.tmp 20) (.tmp 21) _ _ rfl f0 j p HP.out.1 HP.out.2.1 HP.out.2.2 rfl rfl) ?_)
        | (refine wpList_val rfl (.pointer (some ⟨g, p, none⟩)) (exec_sidx Try.ws (.tmp 19) (.tmp 22) rfl g n cap p .i64 p rfl HPN.out rfl rfl) ?_)
        | (refine wpList_val rfl (.int .u64 (x : Int)) (exec_getc Try.u64 (.tmp 23) rfl g p _ (HCL.out _ m.below) rfl) ?_)
        | (refine wpList_val rfl (.int .i64 (q : Int)) (exec_quoN (.tmp 25) (.const (.int .i64 4)) _ _ rfl j 4 q HQ4.out HJ.out H4.out rfl rfl) ?_)
        | (refine wpList_val rfl (.int .i64 (q : Int)) (exec_quoN (.tmp 27) (.const (.int .i64 4)) _ _ rfl j 4 q HQ4.out HJ.out H4.out rfl rfl) ?_)
        | (refine W.idx rfl (.tmp 5) (.tmp 28) rfl g5 q .i64 q rfl hq rfl rfl ?_)
        | (refine W.getL m rfl (.tmp 29) rfl 0 q y rfl (by rw [hQ]; exact hq) HY.out rfl ?_)
        | (refine wpList_val rfl (.int .u64 (u : Int)) (exec_mulM (.tmp 30) (.const (.int .u64 65536)) _ _ rfl y 65536 u HU.out rfl rfl) ?_)
        | (refine wpList_val rfl (.int .u64 (z : Int)) (exec_addM (.tmp 31) (.tmp 32) _ _ rfl u x z HZ.out rfl rfl) ?_)
        | (refine W.idx rfl (.tmp 5) (.tmp 26) rfl g5 q .i64 q rfl hq rfl rfl ?_)
        | (refine W.set m rfl (.tmp 34) (.tmp 33) rfl rfl 0 q z Q' HQS.out rfl (by rw [hQ]; exact hq) rfl rfl ?_; clear m; intro wx102 m)); try simp only [Act.put, List.setIfInBounds_toArray, List.set_cons_succ, List.set_cons_zero])
      go_roundw
      case rel => exact ⟨k + 1, by omega, by rw [HJ1.out], by rw [HST.out]; exact m⟩
      case measure => have := HJ1.out; simp only [intOf]; omega
    · obtain rfl : k = 16 := by omega
      have hi2 : _ = Value.int .i64 (-1) := hi.trans rfl
      subst hi2
      rw [HN.out] at m
      clear hi hk hlt hf hn2
      go_wp2_with ((first
        | (refine W.load m rfl (.tmp 5) rfl 0 rfl rfl ?_)
        | (refine W.store m rfl (.tmp 4) (.tmp 35) rfl rfl 1 N rfl (w4_length _) rfl rfl ?_; clear m; intro wx103 m)); try simp only [Act.put, List.setIfInBounds_toArray, List.set_cons_succ, List.set_cons_zero])
      refine bodyPost_ret (results_arr Try.aw Try.results73 _ wx103 g4 (c64 (w4 N)) (wl N) rfl (m.get 1 rfl)) rfl ⟨rfl, m.below⟩
end Go.Proofs.Ytpfoeeiacfadfaa
