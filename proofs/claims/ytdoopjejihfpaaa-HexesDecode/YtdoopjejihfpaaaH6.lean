/-
  The live question of layer 2, and the laws HexesEncode, HexesDecode, HexesOnly: true, and nothing that was there has turned.
-/
import Derived.Test.YtdoopjejihfpaaaH5
namespace Go.Proofs.Ytdoopjejihfpaaa
open Go.RowKit

theorem live1 : decE (bl ⟨#[48, 49, 97, 98]⟩) = 0 ∧ decR (bl ⟨#[48, 49, 97, 98]⟩) = [1, 171] ∧ decE (bl ⟨#[48, 65, 66, 49]⟩) = 3 ∧ enc [1, 171] = [48, 49, 97, 98] := by decide +kernel

set_option maxHeartbeats 400000 in
theorem alive_any (w : World) : Calls Try.prog 8 #[] w fun e w' => e = .returned (.bool true) ∧ Below w.heap.size w w' := by
  obtain ⟨l1, l2, l3, l4⟩ := live1
  go_enter Try.func8, Try.ntmps8
  go_wp2_with fail
  refine (decode_any _ _ (by decide)).mono ?_
  rw [l1, l2]
  rintro e w1 ⟨v1, rfl, ho1, hb1⟩
  go_wp2_with fail
  refine (decode_any _ _ (by decide)).mono ?_
  rw [l3]
  rintro e w2 ⟨v2, rfl, ho2, hb2⟩
  have ho1' := ho1.keep hb2
  have hb12 := Gr.trans hb1 hb2
  clear ho1 ho2 hb1 hb2
  go_wp2_with fail
  refine (encode_any _ _ _ [1, 171] (Rd.lit 5 w2 [1, 171] _ rfl 2 rfl) (by decide)).mono ?_
  rw [l4]
  rintro e w3 ⟨rfl, hb3⟩
  have hcv := run_conv_rd Try.bt 9 (by kernel_rfl) w3 _ _ _ (((ho1'.alloc _).keep hb3).rd)
  clear l1 l2 l3 l4
  go_wp2
  go_ret
  exact ⟨rfl, Gr.trans hb12 (Gr.trans ((Below.refl _ _).alloc (Nat.le_refl _) _) hb3)⟩

set_option maxHeartbeats 400000 in
theorem encode_large (w : World) (ao : Option Addr) (len cap : Nat) (hl : 300 < len) :
    Calls Try.prog 3 #[.slice ao len cap] w fun e w' => e = .returned (.bool true) ∧ Below w.heap.size w w' := by
  go_enter Try.func3, Try.ntmps3
  go_wp2_with (go_at_call 8; refine (alive_any _).mono ?_; rintro e w1 ⟨rfl, hb1⟩)
  go_ret
  exact ⟨rfl, hb1⟩

set_option maxHeartbeats 400000 in
theorem encode_small (w : World) (v : Value) (l : List UInt8) (h : Rs w v l) (hl : l.length ≤ 300) :
    Calls Try.prog 3 #[v] w fun e w' => e = .returned (.bool true) ∧ Below w.heap.size w w' := by
  have hrd : Hid (Rs w v l) := h
  obtain ⟨ao, cap, rfl⟩ := Rd.len h
  clear h
  go_enter Try.func3, Try.ntmps3
  go_wp2_with (at_builtin; refine wpList_append_rd Try.bt rfl (.tmp 8) (.tmp 9) rfl w.heap.size w.heap.size _ _ [] l rfl (Own.empty 5 w.heap.size w (Nat.le_refl _)) rfl (Rd.grow hrd.out ((Below.refl _ _).alloc (Nat.le_refl _) _)) (by simp; omega) (by simp) ?_; intro v1 w1 ho1 hb1)
  have hb1' : Gr w w1 := ((Below.refl _ _).alloc (Nat.le_refl _) _).trans hb1
  refine (alive_any _).mono ?_
  rintro e w2 ⟨rfl, hb2⟩
  have hg2 : Hid (Gr w w2) := Gr.trans hb1' hb2
  have ho2 : Hid (Own 5 w.heap.size w2 v1 l) := ho1.keep hb2
  clear ho1 hb1 hb1' hb2
  go_wp2_with fail
  refine (encode_any _ _ _ _ ho2.out.rd (by omega)).mono ?_
  rintro e w3 ⟨rfl, hb3⟩
  have hg3 : Hid (Gr w w3) := Gr.trans hg2.out hb3
  have ho3 : Hid (Own 5 w.heap.size w3 v1 l) := ho2.out.keep hb3
  clear ho2 hg2 hb3
  go_wp2_with fail
  refine (refEncode_any _ _ _ _ (hrd.out.gr hg3.out) (by omega)).mono ?_
  rintro e w4 ⟨rfl, hb4⟩
  have c1 := run_conv_rd Try.bt 9 (by kernel_rfl) w4 _ _ _ (ho3.out.keep hb4).rd
  have c2 := run_conv_rd Try.bt 9 (by kernel_rfl) w4 _ _ _ (hrd.out.gr (hg3.out.trans hb4))
  go_wp2
  go_ret
  exact ⟨rfl, hg3.out.trans hb4⟩

set_option maxHeartbeats 400000 in
theorem decode_large (w : World) (s : ByteArray) (hl : 300 < s.size) :
    Calls Try.prog 4 #[.string s] w fun e w' => e = .returned (.bool true) ∧ Below w.heap.size w w' := by
  go_enter Try.func4, Try.ntmps4
  go_wp2_with (go_at_call 8; refine (alive_any _).mono ?_; rintro e w1 ⟨rfl, hb1⟩)
  go_ret
  exact ⟨rfl, hb1⟩

set_option maxHeartbeats 400000 in
theorem decode_small (w : World) (s : ByteArray) (hl : s.size ≤ 300) :
    Calls Try.prog 4 #[.string s] w fun e w' => e = .returned (.bool true) ∧ Below w.heap.size w w' := by
  go_enter Try.func4, Try.ntmps4
  go_wp2_with fail
  refine (decode_any _ s (by omega)).mono ?_
  rintro e w1 ⟨v1, rfl, ho1, hb1⟩
  go_wp2_with fail
  refine (refDecode_any _ s (by omega)).mono ?_
  rintro e w2 ⟨v2, rfl, ho2, hb2⟩
  have h1 := ho1.keep hb2
  have hb12 := Gr.trans hb1 hb2
  clear ho1 hb1 hb2
  go_wp2_with fail
  refine (alive_any _).mono ?_
  rintro e w3 ⟨rfl, hb3⟩
  have c1 := run_conv_rd Try.bt 9 (by kernel_rfl) w3 _ _ _ (h1.keep hb3).rd
  have c2 := run_conv_rd Try.bt 9 (by kernel_rfl) w3 _ _ _ (ho2.keep hb3).rd
  go_wp2
  go_ret
  exact ⟨rfl, Gr.trans hb12 hb3⟩

set_option maxHeartbeats 400000 in
theorem only_large (w : World) (s : ByteArray) (hl : 300 < s.size) :
    Calls Try.prog 7 #[.string s] w fun e w' => e = .returned (.bool true) ∧ Below w.heap.size w w' := by
  go_enter Try.func7, Try.ntmps7
  go_wp2_with (go_at_call 8; refine (alive_any _).mono ?_; rintro e w1 ⟨rfl, hb1⟩)
  go_ret
  exact ⟨rfl, hb1⟩

set_option maxHeartbeats 400000 in
theorem only_no (w : World) (s : ByteArray) (hl : s.size ≤ 300) (hn : okS (bl s) = false) :
    Calls Try.prog 7 #[.string s] w fun e w' => e = .returned (.bool true) ∧ Below w.heap.size w w' := by
  go_enter Try.func7, Try.ntmps7
  go_wp2_with fail
  refine (decode_any _ s (by omega)).mono ?_
  obtain ⟨l1, l2⟩ := dec_no _ hn
  rw [l1, l2]
  clear l1 l2
  rintro e w1 ⟨v1, rfl, ho1, hb1⟩
  obtain ⟨ao, cap, rfl⟩ := ho1.rd.len
  clear ho1
  go_wp2_with (go_at_call 8; refine (alive_any _).mono ?_; rintro e w2 ⟨rfl, hb2⟩)
  go_ret
  exact ⟨rfl, Gr.trans hb1 hb2⟩

theorem digit_at (s : ByteArray) (h : okS (bl s) = true) (k : Nat) (hk : k < s.size) : ∃ c : Nat, Hid (isD c = true) ∧ ∀ w, (Instr.index 9 (.string s) (.int .i64 (k : Int))).run Try.prog w = .ok (.int .u8 c) w := by
  have hb : k < (bl s).length := by rw [bl_length]; exact hk
  refine ⟨(bl s)[k].toNat, ?_, fun w => run_at s k hk _ rfl w _ rfl⟩
  simp only [okS, Bool.and_eq_true] at h
  exact allD_get _ h.2 k hb

theorem even_of (s : ByteArray) (h : okS (bl s) = true) : s.size % 2 = 0 := by
  simp only [okS, Bool.and_eq_true, decide_eq_true_eq, bl_length] at h
  exact h.1
theorem enc_back (s : ByteArray) (h : okS (bl s) = true) : (⟨(enc (decB (bl s))).toArray⟩ : ByteArray) = s := by
  rw [enc_decB _ h]; simp [bl]

set_option maxHeartbeats 1000000 in
theorem only_ok (w : World) (s : ByteArray) (hl : s.size ≤ 300) (hn : okS (bl s) = true) :
    Calls Try.prog 7 #[.string s] w fun e w' => e = .returned (.bool true) ∧ Below w.heap.size w w' := by
  have HN : Hid (okS (bl s) = true) := hn
  clear hn
  go_enter Try.func7, Try.ntmps7
  go_wp2_with fail
  refine (decode_any _ s (by omega)).mono ?_
  obtain ⟨l1, l2⟩ := dec_ok _ HN.out
  rw [l1, l2]
  clear l1 l2
  rintro e w1 ⟨v1, rfl, ho1, hb1⟩
  have Ho1 : Hid (Own 5 w.heap.size w1 v1 (decB (bl s))) := ho1
  clear ho1
  go_wp2
  go_loop [5] (fun i => ∃ k : Nat, k ≤ s.size ∧ i = .int .i64 k) (fun i => s.size - (intOf i).toNat)
  case atStart => exact ⟨0, by omega, rfl⟩
  case round =>
    obtain ⟨k, hk, rfl⟩ := hrel
    by_cases hlt : k < s.size
    · obtain ⟨c, HD, hix⟩ := digit_at s HN.out k hlt
      have hng := no_great c HD.out
      by_cases h65 : 65 ≤ c
      · have h70 : ¬ c ≤ 70 := fun h => hng ⟨h65, h⟩
        clear hng
        go_wp2
        go_round
        case rel => exact ⟨k + 1, by omega, by go_num⟩
        case measure => simp [intOf]; omega
      · have d65 : decide ((65 : Int) ≤ (c : Int)) = false := by simp; omega
        clear hng
        go_wp2
        go_round
        case rel => exact ⟨k + 1, by omega, by go_num⟩
        case measure => simp [intOf]; omega
    · obtain rfl : k = s.size := by omega
      go_wp2_with fail
      refine (alive_any _).mono ?_
      rintro e w2 ⟨rfl, hb2⟩
      have hev := even_of s HN.out
      have hev' : ((s.size : Int) % 2 == 0) = true := by simp; omega
      clear hev
      go_wp2_with fail
      refine (encode_any _ _ _ _ (Ho1.out.keep hb2).rd (by rw [decB_length, bl_length]; omega)).mono ?_
      rw [enc_back s HN.out]
      rintro e w3 ⟨rfl, hb3⟩
      go_wp2
      go_ret
      exact ⟨rfl, Gr.trans (Gr.trans hb1 hb2) hb3⟩
end Go.Proofs.Ytdoopjejihfpaaa
