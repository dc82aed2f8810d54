/-
  Contracts of the document's Digits and Whole.
  Conditions: numbers below 2^256; digits below 2^16.
-/
import Derived.Test.YtpfoeeiacfadfaaV13a
import Derived.Test.YtpfoeeiacfadfaaDg
import Derived.Test.YtpfoeeiacfadfaaSl
namespace Go.Proofs.Ytpfoeeiacfadfaa
open Go.RowKit

set_option maxRecDepth 20000 in
set_option maxHeartbeats 2000000 in
theorem digits_any (a : Nat) (ha : a < M) (w : World) :
    Calls Try.prog 81 #[wv a] w fun e w' => ∃ v, e = .returned v ∧ NewD w.heap.size 16 (dgP a 16) v w' ∧ Below w.heap.size w w' := by
  have HW : Hid (∀ i k, i < 4 → k < 4 → gw (w4 a) i / 65536 ^ k % 65536 = a / 65536 ^ (4 * i + k) % 65536) := fun i k hi hk => word_digit a i k ha hi hk
  clear ha
  have m := Mem.start w
  go_enter Try.func81, Try.ntmps81
  go_wp2_with ((first
    | (refine W.box m rfl (.tmp 0) rfl a rfl ?_; clear m; intro g1 wx1 m)); try simp only [Act.put, List.setIfInBounds_toArray, List.set_cons_succ, List.set_cons_zero])
  have hB : g1 < wx1.heap.size := (m.get 0 rfl).lt
  have hB0 : w.heap.size ≤ wx1.heap.size := m.size
  have ho := Ow.empty 22 wx1.heap.size wx1 (Nat.le_refl _)
  have m2 := m.gr (gr_alloc wx1 (.cells #[] 22))
  have hsz : wx1.heap.size ≤ (wx1.alloc (.cells #[] 22)).heap.size := (gr_alloc wx1 (.cells #[] 22)).size
  clear m
  generalize hBB : wx1.heap.size = B at *
  go_loopw [3, 4] (fun s i wr => ∃ k : Nat, k ≤ 4 ∧ i = .int .i64 (k : Int) ∧ Ow 22 B wr s (dgP a (4 * k)) ∧ B ≤ wr.heap.size ∧ Mem w wr [⟨g1, 24, c64 (w4 a)⟩]) (fun _ i _ => 4 - (intOf i).toNat)
  case atStart => exact ⟨0, by omega, rfl, by subst hBB; exact ho, hsz, m2⟩
  case round =>
    clear ho m2 hsz
    obtain ⟨k, hk, rfl, ho, hsz, m⟩ := hrel
    by_cases hlt : k < 4
    · obtain ⟨X, eX⟩ : ∃ x, gw (w4 a) k = x := ⟨_, rfl⟩
      have HX : Hid (gw (w4 a) k = X) := eX
      have hXl : X < 18446744073709551616 := eX ▸ gw_lt a k
      have HXl : Hid (X < 18446744073709551616) := hXl
      have HWk : Hid (∀ n, n < 4 → X / 65536 ^ n % 65536 = a / 65536 ^ (4 * k + n) % 65536) := fun n hn => by rw [← eX]; exact HW.out k n hlt hn
      clear eX hXl
      go_wp2_with ((first
        | (refine W.idx rfl (.tmp 1) (.tmp 12) rfl g1 k .i64 k rfl hlt rfl rfl ?_)
        | (refine W.get m rfl (.tmp 13) rfl 0 k X rfl hlt HX.out rfl ?_)); try simp only [Act.put, List.setIfInBounds_toArray, List.set_cons_succ, List.set_cons_zero])
      have HO : Hid (Ow 22 B wr _ (dgP a (4 * k))) := ho
      go_loopw [3, 5, 6] (fun s x j wi => ∃ n : Nat, n ≤ 4 ∧ j = .int .i64 (n : Int) ∧ x = .int .u64 ((X / 65536 ^ n : Nat) : Int) ∧ Ow 22 B wi s (dgP a (4 * k + n)) ∧ B ≤ wi.heap.size ∧ Mem w wi [⟨g1, 24, c64 (w4 a)⟩]) (fun _ _ j _ => 4 - (intOf j).toNat)
      case atStart => exact ⟨0, by omega, rfl, by rw [Nat.pow_zero, Nat.div_one], HO.out, hsz, m⟩
      case round =>
        clear ho HO hsz m
        obtain ⟨n, hn, rfl, rfl, ho, hsz, m⟩ := hrel
        by_cases hl2 : n < 4
        · obtain ⟨x, ex⟩ : ∃ x, X / 65536 ^ n = x := ⟨_, rfl⟩
          obtain ⟨d, ed⟩ : ∃ d, x % 65536 = d := ⟨_, rfl⟩
          obtain ⟨y, ey⟩ : ∃ d, x / 65536 = d := ⟨_, rfl⟩
          have hxl : x < 18446744073709551616 := by rw [← ex]; exact Nat.lt_of_le_of_lt (Nat.div_le_self _ _) HXl.out
          have HL : Hid (dgP a (4 * k + (n + 1)) = dgP a (4 * k + n) ++ [d]) := by
            show _ = _
            rw [← Nat.add_assoc, dgP_succ, ← HWk.out n hl2, ex, ed]
          have HY : Hid (X / 65536 ^ (n + 1) = y) := by show _ = _; rw [Nat.pow_succ, ← Nat.div_div_eq_div_mul, ex, ey]
          have ED : Hid (x % 65536 = d) := ed
          have EY : Hid (x / 65536 = y) := ey
          have LX : Hid (x < 18446744073709551616) := hxl
          have H0 : Hid (65536 ≠ 0) := by show _ ≠ _; decide
          rw [ex]
          have hlen : Hid ((dgP a (4 * k + n)).length + [d].length ≤ 1099511627776) := by show _ ≤ _; rw [dgP_length]; simp; omega
          have HO2 : Hid (Ow 22 B (wr.alloc (.cells #[.int .u64 (d : Int)] 22)) _ (dgP a (4 * k + n))) := ho.keep (gr_alloc _ _)
          have HR : Hid (Rw (wr.alloc (.cells #[.int .u64 (d : Int)] 22)) (.slice (some ⟨wr.heap.size, 0, none⟩) 1 1) [d]) := Rw.lit 22 wr [d] _ rfl 1 rfl
          have HS : Hid (B ≤ (wr.alloc (.cells #[.int .u64 (d : Int)] 22)).heap.size) := Nat.le_trans hsz (gr_alloc wr _).size
          have HM : Hid (Mem w (wr.alloc (.cells #[.int .u64 (d : Int)] 22)) [⟨g1, 24, c64 (w4 a)⟩]) := m.gr (gr_alloc _ _)
          clear ex ed ey hxl ho m hsz
          go_wp2_with ((first
            | (refine wpList_val rfl (.int .u64 (d : Int)) (exec_remN (.tmp 20) (.const (.int .u64 65536)) _ _ rfl x 65536 d ED.out H0.out .u64 rfl rfl) ?_)
            | (refine wpList_append_rw Try.ws rfl (.tmp 19) (.tmp 22) rfl B _ _ (dgP a (4 * k + n)) [d] rfl HO2.out rfl HR.out hlen.out HS.out ?_; intro v9 w9 ho9 b9)
            | (refine wpList_val rfl (.int .u64 (y : Int)) (exec_quoU (.tmp 24) (.const (.int .u64 65536)) _ _ rfl x 65536 y EY.out LX.out H0.out rfl rfl) ?_)); try simp only [Act.put, List.setIfInBounds_toArray, List.set_cons_succ, List.set_cons_zero])
          have m9 := HM.out.sep1 b9 hB hB0
          have hs9 := Nat.le_trans HS.out b9.size
          go_roundw
          case rel => exact ⟨n + 1, by omega, by go_num, by rw [HY.out], by rw [HL.out]; exact ho9, hs9, m9⟩
          case measure => simp [intOf]; omega
        · obtain rfl : n = 4 := by omega
          have HO : Hid (Ow 22 B wr _ (dgP a (4 * k + 4))) := ho
          go_wp2
          go_roundw
          case rel => exact ⟨k + 1, by omega, by go_num, HO.out, hsz, m⟩
          case measure => simp [intOf]; omega
    · obtain rfl : k = 4 := by omega
      have hs := ho.shape (fun e => by have := congrArg List.length e; rw [dgP_length] at this; simp at this)
      rw [dgP_length] at hs
      obtain ⟨g, cap, junk, rfl, hg, hr⟩ := hs
      have HR : Hid (Arr 22 wr g (c64 (dgP a 16) ++ junk)) := hr
      have HG : Hid (w.heap.size ≤ g) := Nat.le_trans hB0 hg
      clear ho hr hg
      go_wp2
      go_ret
      exact ⟨_, rfl, ⟨g, cap, junk, rfl, HG.out, HR.out⟩, m.below⟩
end Go.Proofs.Ytpfoeeiacfadfaa
