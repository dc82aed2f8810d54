/-
  Contracts: a size that is taken, the live question, the document's own numbers.
-/
import Derived.Test.YtjobmpfnnfmonaaW4
namespace Go.Proofs.Ytjobmpfnnfmonaa
open Go.RowKit

set_option maxHeartbeats 400000 in
theorem takeSize_any (w : World) (B : Nat) (v : Value) (l : List UInt8) (h : Rd B w v l) (hl : l.length ≤ 1000000) :
    Calls Try.prog 27 #[v] w fun e w' => ∃ v', e = .returned (.tuple #[.int .u64 ((takeSize l).1 : Nat), v', .int .i64 ((takeSize l).2.2 : Nat)]) ∧ Own 5 w.heap.size w' v' (takeSize l).2.1 ∧ Below w.heap.size w w' := by
  go_enter Try.func27, Try.ntmps27
  go_wp2_with (go_at_call 42; refine (readSize_any _ _ _ _ h hl).mono ?_; rintro e w1 ⟨v1, rfl, hr1, hb1⟩)
  refine (clone_any _ _ _ _ hr1 (by have := takeSize_le l; omega)).mono ?_
  rintro e w2 ⟨v2, rfl, ho2, hb2⟩
  go_wp2
  go_ret3
  exact ⟨_, rfl, ho2.mono hb1.size, hb1.trans (hb2.mono hb1.size)⟩

set_option maxRecDepth 100000 in
set_option maxHeartbeats 1000000 in
theorem alive_any (w : World) :
    Calls Try.prog 10 #[] w fun e w' => e = .returned (.bool true) ∧ Below w.heap.size w w' := by
  go_enter Try.func10, Try.ntmps10
  go_wp2_with fail
  refine (takeSize_any _ (w.heap.size + 1) _ [253, 253, 0, 7] (Rd.lit 5 w _ _ rfl _ rfl) (by decide)).mono ?_
  rintro e w1 ⟨v1, rfl, ho1, hb1⟩
  have e1 : (takeSize [253, 253, 0, 7]) = (253, [7], 0) := by decide +kernel
  rw [e1] at ho1 ⊢
  clear e1
  have hs1 : w.heap.size + 1 ≤ w1.heap.size := by have := hb1.size; simpa using this
  have hr1 := ho1.rd
  obtain ⟨b, off, cap, rfl, hcap, hbB, hc⟩ := hr1.at (by simp)
  have hc0 := hc 0 (by simp)
  simp only [Nat.add_zero, List.getElem_cons_zero] at hc0
  have e7 : (((7 : UInt8).toNat : Nat) : Int) = 7 := by decide
  rw [e7] at hc0
  have hc0' : Hid (w1.cell? ⟨b, off, none⟩ = some (.int .u8 7)) := hc0
  clear hc hr1 ho1 hc0 e7
  go_wp2_with fail
  refine (putSize_any _ (w1.heap.size + 1) _ [1] 65536 (Rd.lit 5 w1 _ _ rfl _ rfl) (by decide)).mono ?_
  rintro e w2 ⟨v2, rfl, ho2, hb2⟩
  have e2 : [1] ++ sizeL 65536 = [1, 254, 0, 0, 1, 0] := by decide +kernel
  rw [e2] at ho2
  have hconv := run_conv_rd Try.bt 9 (by kernel_rfl) w2 _ v2 _ ho2.rd
  have hc2 : w2.cell? ⟨b, off, none⟩ = some (.int .u8 7) := by
    rw [hb2.cell (p := ⟨b, off, none⟩) (by simp; omega)]
    rw [World.cell?_alloc_past _ _ _ (by omega)]
    exact hc0'.out
  have hbf : Below w.heap.size w w2 := by
    have q1 := ((Below.refl w.heap.size w).alloc (Nat.le_refl _) (.cells (cellsOf [253, 253, 0, 7]).toArray 5))
    have q2 := (hb1.mono (B' := w.heap.size) (by simp))
    have q3 := ((Below.refl w.heap.size w1).alloc (by omega) (.cells (cellsOf [1]).toArray 5))
    have q4 := (hb2.mono (B' := w.heap.size) (by simp; omega))
    exact ((q1.trans q2).trans q3).trans q4
  have hbf' : Hid (Below w.heap.size w w2) := hbf
  clear hbf hb1 hb2 ho2 e2 hs1 hbB hcap hc0'
  go_wp2
  go_ret
  exact ⟨rfl, hbf'.out⟩

theorem div256 (n k : Nat) : n / 2 ^ (8 * k) / 256 = n / 2 ^ (8 * (k + 1)) := by
  rw [Nat.div_div_eq_div_mul, show 8 * (k + 1) = 8 * k + 8 by omega, Nat.pow_add]

theorem wrap_div (m : Nat) (h : m < 18446744073709551616) : IntKind.u64.wrap ((m : Int) / 256) = ((m / 256 : Nat) : Int) := by
  rw [IntKind.wrap_u64]
  omega

set_option maxHeartbeats 400000 in
theorem refPut (w : World) (B : Nat) (v : Value) (l : List UInt8) (z : Int) (n : Nat) (hz : z = (n : Int)) (hn : n < 18446744073709551616) (K : Nat) (hK : K ≤ 8) (h : Rd B w v l) (hl : l.length ≤ 1000000) :
    Calls Try.prog 15 #[v, .int .u64 z, .int .i64 K] w fun e w' => ∃ v', e = .returned v' ∧ Own 5 w.heap.size w' v' (l ++ le n K) ∧ Below w.heap.size w w' := by
  subst hz
  have hrd : Hid (Rd B w v l) := h
  have Hn : Hid (n < 18446744073709551616) := hn
  clear h hn
  have hb1 : Below w.heap.size w (w.alloc (.cells #[] 5)) := (Below.refl _ _).alloc (Nat.le_refl _) _
  go_enter Try.func15, Try.ntmps15
  go_wp2_with (at_builtin; refine wpList_append_rd Try.bt rfl (.tmp 9) (.tmp 10) rfl w.heap.size w.heap.size _ _ [] l rfl (Own.empty 5 _ w (Nat.le_refl _)) rfl (hrd.out.self.below hb1) (by simp; omega) hb1.size ?_; intro v2 w2 ho2 hb2)
  go_loopw [1, 7, 8] (fun m b i wr => ∃ k : Nat, k ≤ K ∧ i = .int .i64 k ∧ m = .int .u64 ((n / 2 ^ (8 * k) : Nat) : Int) ∧ Own 5 w.heap.size wr b (l ++ le n k) ∧ Below w.heap.size w wr) (fun _ _ i _ => K - (intOf i).toNat)
  case atStart => exact ⟨0, by omega, rfl, by simp, by simpa [le] using ho2, hb1.trans hb2⟩
  case round =>
    obtain ⟨k, hk, rfl, rfl, ho, hb⟩ := hrel
    have hd := div256 n k
    have hby := byte1 (n / 2 ^ (8 * k))
    have hmn : n / 2 ^ (8 * k) < 18446744073709551616 := Nat.lt_of_le_of_lt (Nat.div_le_self _ _) Hn.out
    generalize hm : n / 2 ^ (8 * k) = m at *
    have Hm : Hid (n / 2 ^ (8 * k) = m) := hm
    have Hd : Hid (m / 256 = n / 2 ^ (8 * (k + 1))) := hd
    have Hby : Hid ((m : Int) % 256 = ((UInt8.ofNat m).toNat : Int)) := hby
    have Hmn : Hid (m < 18446744073709551616) := hmn
    clear hm hd hby hmn hb1 hb2 ho2
    by_cases hlt : k < K
    · go_wp2_with (at_builtin; refine wpList_append_rd Try.bt rfl (.tmp 17) (.tmp 20) rfl w.heap.size _ _ _ _ [UInt8.ofNat m] rfl (ho.alloc _) rfl (Rd.one 5 wr _ _ Hby.out) (by simp [le]; omega) (by have := hb.size; simp; omega) ?_; intro v3 w3 ho3 hb3)
      go_roundw
      case rel => exact ⟨k + 1, by omega, by go_num, by rw [← Hd.out]; exact congrArg _ (wrap_div m Hmn.out), by rw [le_succ, ← List.append_assoc, Hm.out]; exact ho3, hb.trans (((Below.refl _ _).alloc (by have := hb.size; omega) _).trans hb3)⟩
      case measure => simp [intOf]; omega
    · obtain rfl : k = K := by omega
      go_wp2
      go_ret
      exact ⟨_, rfl, ho, hb⟩

set_option maxRecDepth 100000 in
set_option maxHeartbeats 1000000 in
theorem refPutSize (w : World) (B : Nat) (v : Value) (l : List UInt8) (n : Nat) (hn : n < 18446744073709551616) (h : Rd B w v l) (hl : l.length ≤ 900000) :
    Calls Try.prog 16 #[v, .int .u64 n] w fun e w' => ∃ v', e = .returned v' ∧ Own 5 w.heap.size w' v' (l ++ sizeL n) ∧ Below w.heap.size w w' := by
  have Hn : Hid (n < 18446744073709551616) := hn
  clear hn
  unfold sizeL
  by_cases h1 : n < 253
  · rw [if_pos h1]
    have d1 : decide ((n : Int) < 253) = true := by simp; omega
    clear h1
    go_enter Try.func16, Try.ntmps16
    go_wp2_with fail
    refine (refPut _ _ _ _ _ n rfl Hn.out 1 (by omega) h (by omega)).mono ?_
    rintro e w1 ⟨v1, rfl, ho1, hb1⟩
    go_wp2
    go_ret
    exact ⟨_, rfl, ho1, hb1⟩
  · rw [if_neg h1]
    have d1 : decide ((n : Int) < 253) = false := by simp; omega
    have two : ∀ (c K : Nat) (w1 : World) (v1 : Value), c < 256 → K ≤ 8 → Own 5 w.heap.size w1 v1 (l ++ le c 1) → Below w.heap.size w w1 →
        Calls Try.prog 15 #[v1, .int .u64 n, .int .i64 K] w1 fun e w' => ∃ v', e = .returned v' ∧ Own 5 w.heap.size w' v' (l ++ ([UInt8.ofNat c] ++ le n K)) ∧ Below w.heap.size w w' := by
      intro c K w1 v1 hc hK ho1 hb1
      refine (refPut _ _ _ _ _ n rfl Hn.out K hK ho1.rd (by simp [le_length]; omega)).mono ?_
      rintro e w2 ⟨v2, rfl, ho2, hb2⟩
      refine ⟨_, rfl, ?_, hb1.trans (hb2.mono hb1.size)⟩
      have := ho2.mono hb1.size
      simpa [le] using this
    have two' : Hid _ := two
    clear two
    by_cases h2 : n < 65536
    · rw [if_pos h2]
      have d2 : decide ((n : Int) < 65536) = true := by simp; omega
      clear h1 h2
      go_enter Try.func16, Try.ntmps16
      go_wp2_with fail
      refine (refPut _ _ _ _ _ 253 rfl (by omega) 1 (by omega) h (by omega)).mono ?_
      rintro e w1 ⟨v1, rfl, ho1, hb1⟩
      go_wp2_with fail
      refine (two'.out 253 2 _ _ (by omega) (by omega) ho1 hb1).mono ?_
      rintro e w2 ⟨v2, rfl, ho2, hb2⟩
      go_wp2
      go_ret
      exact ⟨_, rfl, ho2, hb2⟩
    · rw [if_neg h2]
      have d2 : decide ((n : Int) < 65536) = false := by simp; omega
      by_cases h3 : n < 4294967296
      · rw [if_pos h3]
        have d3 : decide ((n : Int) < 4294967296) = true := by simp; omega
        clear h1 h2 h3
        go_enter Try.func16, Try.ntmps16
        go_wp2_with fail
        refine (refPut _ _ _ _ _ 254 rfl (by omega) 1 (by omega) h (by omega)).mono ?_
        rintro e w1 ⟨v1, rfl, ho1, hb1⟩
        go_wp2_with fail
        refine (two'.out 254 4 _ _ (by omega) (by omega) ho1 hb1).mono ?_
        rintro e w2 ⟨v2, rfl, ho2, hb2⟩
        go_wp2
        go_ret
        exact ⟨_, rfl, ho2, hb2⟩
      · rw [if_neg h3]
        have d3 : decide ((n : Int) < 4294967296) = false := by simp; omega
        clear h1 h2 h3
        go_enter Try.func16, Try.ntmps16
        go_wp2_with fail
        refine (refPut _ _ _ _ _ 255 rfl (by omega) 1 (by omega) h (by omega)).mono ?_
        rintro e w1 ⟨v1, rfl, ho1, hb1⟩
        go_wp2_with fail
        refine (two'.out 255 8 _ _ (by omega) (by omega) ho1 hb1).mono ?_
        rintro e w2 ⟨v2, rfl, ho2, hb2⟩
        go_wp2
        go_ret
        exact ⟨_, rfl, ho2, hb2⟩

end Go.Proofs.Ytjobmpfnnfmonaa
