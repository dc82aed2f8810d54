/-
  The live question of layer 5, and the laws NumberDecode, NumberTruth, NumberBack: true, and nothing that was there has turned.
-/
import Derived.Test.YtcbfjhcblajkjaaN5
namespace Go.Proofs.Ytcbfjhcblajkjaa
open Go.RowKit

theorem live1 : decN [128, 128] 4 = -128 ∧ decE [128, 128] 4 = 0 ∧ decE [128] 4 = 15 ∧ encN 128 = [128, 0] ∧ trN [1] = true := by decide +kernel

theorem decode_r (w : World) (v : Value) (B : Nat) (l : List UInt8) (most : Int) (h : Rd B w v l) (hl : l.length ≤ 1000000) (z x : Int) (hz : decN l most = z) (hx : decE l most = x) :
    Calls Try.prog 13 #[v, .int .i64 most] w fun e w' => e = .returned (.tuple #[.int .i64 z, .int .i64 x]) ∧ Below w.heap.size w w' := by
  subst hz hx; exact decode_any w v B l most h hl
theorem rdecode_r (w : World) (v : Value) (B : Nat) (l : List UInt8) (most : Int) (h : Rd B w v l) (hl : l.length ≤ 1000000) (z x : Int) (hz : decN l most = z) (hx : decE l most = x) :
    Calls Try.prog 14 #[v, .int .i64 most] w fun e w' => e = .returned (.tuple #[.int .i64 z, .int .i64 x]) ∧ Below w.heap.size w w' := by
  subst hz hx; exact rdecode_any w v B l most h hl
theorem encode_r (w : World) (n : Int) (h1 : -9223372036854775808 ≤ n) (h2 : n ≤ 9223372036854775807) (r : List UInt8) (hr : encN n = r) :
    Calls Try.prog 9 #[.int .i64 n] w fun e w' => ∃ v', e = .returned v' ∧ Own 5 w.heap.size w' v' r ∧ Below w.heap.size w w' := by
  subst hr; exact encode_any w n h1 h2
theorem truth_r (w : World) (B : Nat) (v : Value) (l : List UInt8) (h : Rd B w v l) (hl : l.length ≤ 1000000) (b : Bool) (hb : trN l = b) :
    Calls Try.prog 15 #[v] w fun e w' => e = .returned (.bool b) ∧ Below w.heap.size w w' := by
  subst hb; exact truth_any w B v l h hl

set_option maxHeartbeats 1000000 in
theorem alive_any (w : World) : Calls Try.prog 8 #[] w fun e w' => e = .returned (.bool true) ∧ Below w.heap.size w w' := by
  have HL : Hid (decN [128, 128] 4 = -128 ∧ decE [128, 128] 4 = 0 ∧ decE [128] 4 = 15 ∧ encN 128 = [128, 0] ∧ trN [1] = true) := live1
  go_enter Try.func8, Try.ntmps8
  go_wp2_with fail
  refine (decode_r _ _ _ [128, 128] 4 (Rd.lit 5 w [128, 128] _ rfl 2 rfl) (by decide) _ _ HL.out.1 HL.out.2.1).mono ?_
  rintro e w1 ⟨rfl, hb1⟩
  have Hb1 : Hid (Gr w w1) := Gr.trans ((Below.refl _ _).alloc (Nat.le_refl _) _) hb1
  clear hb1
  go_wp2_with fail
  refine (decode_r _ _ _ [128] 4 (Rd.lit 5 w1 [128] _ rfl 1 rfl) (by decide) _ _ rfl HL.out.2.2.1).mono ?_
  rintro e w2 ⟨rfl, hb2⟩
  have Hb2 : Hid (Gr w w2) := Gr.trans Hb1.out (Gr.trans ((Below.refl _ _).alloc (Nat.le_refl _) _) hb2)
  clear hb2 Hb1
  go_wp2_with fail
  refine (encode_r _ 128 (by decide) (by decide) _ HL.out.2.2.2.1).mono ?_
  rintro e w3 ⟨v3, rfl, ho3, hb3⟩
  have Hb3 : Hid (Gr w w3) := Gr.trans Hb2.out hb3
  have hcv := run_conv_rd Try.bt 9 (by kernel_rfl) w3 _ _ _ ho3.rd
  clear hb3 Hb2 ho3
  go_wp2_with fail
  clear hcv
  refine (truth_r _ _ _ [1] (Rd.lit 5 w3 [1] _ rfl 1 rfl) (by decide) _ HL.out.2.2.2.2).mono ?_
  rintro e w4 ⟨rfl, hb4⟩
  have Hb4 : Hid (Gr w w4) := Gr.trans Hb3.out (Gr.trans ((Below.refl _ _).alloc (Nat.le_refl _) _) hb4)
  clear hb4 Hb3
  go_wp2_with fail
  refine (flag_any _ true).mono ?_
  rintro e w5 ⟨v5, rfl, hr5, hb5⟩
  have hcv := run_conv_rd Try.bt 9 (by kernel_rfl) w5 _ _ _ hr5
  have ef : flg true = [1] := rfl
  rw [ef] at hcv
  clear ef hr5
  go_wp2
  go_ret
  exact ⟨rfl, Gr.trans Hb4.out hb5⟩

set_option maxHeartbeats 400000 in
theorem truth_large (w : World) (ao : Option Addr) (len cap : Nat) (hl : 200 < len) :
    Calls Try.prog 5 #[.slice ao len cap] w fun e w' => e = .returned (.bool true) ∧ Below w.heap.size w w' := by
  go_enter Try.func5, Try.ntmps5
  go_wp2_with (go_at_call 8; refine (alive_any _).mono ?_; rintro e w1 ⟨rfl, hb1⟩)
  go_ret
  exact ⟨rfl, hb1⟩

set_option maxHeartbeats 1000000 in
theorem truth_small (w : World) (v : Value) (l : List UInt8) (h : Rs w v l) (hl : l.length ≤ 200) :
    Calls Try.prog 5 #[v] w fun e w' => e = .returned (.bool true) ∧ Below w.heap.size w w' := by
  have hrd : Hid (Rs w v l) := h
  obtain ⟨ao, cap, rfl⟩ := Rd.len h
  clear h
  go_enter Try.func5, Try.ntmps5
  go_wp2_with fail
  refine (alive_any _).mono ?_
  rintro e w1 ⟨rfl, hb1⟩
  go_wp2_with fail
  refine (truth_any _ _ _ l (hrd.out.gr hb1) (by omega)).mono ?_
  rintro e w2 ⟨rfl, hb2⟩
  go_wp2_with fail
  refine (rtruth_any _ _ _ l ((hrd.out.gr hb1).gr hb2) (by omega)).mono ?_
  rintro e w3 ⟨rfl, hb3⟩
  cases trN l with
  | true =>
    go_wp2
    go_ret
    exact ⟨rfl, Gr.trans (Gr.trans hb1 hb2) hb3⟩
  | false =>
    go_wp2
    go_ret
    exact ⟨rfl, Gr.trans (Gr.trans hb1 hb2) hb3⟩

set_option maxHeartbeats 400000 in
theorem ndecode_large (w : World) (ao : Option Addr) (len cap : Nat) (m : Int) (hl : 200 < len) :
    Calls Try.prog 4 #[.slice ao len cap, .int .i64 m] w fun e w' => e = .returned (.bool true) ∧ Below w.heap.size w w' := by
  go_enter Try.func4, Try.ntmps4
  go_wp2_with (go_at_call 8; refine (alive_any _).mono ?_; rintro e w1 ⟨rfl, hb1⟩)
  go_ret
  exact ⟨rfl, hb1⟩

set_option maxHeartbeats 1000000 in
theorem ndecode_small (w : World) (v : Value) (l : List UInt8) (m : Int) (h : Rs w v l) (hl : l.length ≤ 200) :
    Calls Try.prog 4 #[v, .int .i64 m] w fun e w' => e = .returned (.bool true) ∧ Below w.heap.size w w' := by
  have hrd : Hid (Rs w v l) := h
  obtain ⟨ao, cap, rfl⟩ := Rd.len h
  clear h
  obtain ⟨z, hz⟩ : ∃ z, decN l m = z := ⟨_, rfl⟩
  obtain ⟨x, hx⟩ : ∃ x, decE l m = x := ⟨_, rfl⟩
  have HZ : Hid (decN l m = z) := hz
  have HX : Hid (decE l m = x) := hx
  clear hz hx
  go_enter Try.func4, Try.ntmps4
  go_wp2_with (at_builtin; refine wpList_append_rd Try.bt rfl (.tmp 14) (.tmp 15) rfl w.heap.size w.heap.size _ _ [] l rfl (Own.empty 5 w.heap.size w (Nat.le_refl _)) rfl (Rd.grow hrd.out ((Below.refl _ _).alloc (Nat.le_refl _) _)) (by simp; omega) (by simp) ?_; intro v1 w1 ho1 hb1)
  have hb1' : Gr w w1 := ((Below.refl _ _).alloc (Nat.le_refl _) _).trans hb1
  refine (decode_r _ _ _ l m ho1.rd (by omega) z x HZ.out HX.out).mono ?_
  rintro e w2 ⟨rfl, hb2⟩
  have hg2 : Hid (Gr w w2) := Gr.trans hb1' hb2
  have ho2 : Hid (Own 5 w.heap.size w2 v1 l) := ho1.keep hb2
  clear ho1 hb1 hb1' hb2
  go_wp2_with fail
  refine (rdecode_r _ _ _ l m (hrd.out.gr hg2.out) (by omega) z x HZ.out HX.out).mono ?_
  rintro e w3 ⟨rfl, hb3⟩
  have hg3 : Hid (Gr w w3) := Gr.trans hg2.out hb3
  have ho3 : Hid (Own 5 w.heap.size w3 v1 l) := ho2.out.keep hb3
  clear ho2 hg2 hb3
  go_wp2_with fail
  refine (alive_any _).mono ?_
  rintro e w4 ⟨rfl, hb4⟩
  have c1 := run_conv_rd Try.bt 9 (by kernel_rfl) w4 _ _ _ (ho3.out.keep hb4).rd
  have c2 := run_conv_rd Try.bt 9 (by kernel_rfl) w4 _ _ _ (hrd.out.gr (hg3.out.trans hb4))
  go_wp2
  go_ret
  exact ⟨rfl, hg3.out.trans hb4⟩

/-- What is told of what was written. -/
theorem back_facts (n : Int) (h1 : -9223372036854775808 ≤ n) (h2 : n ≤ 9223372036854775807) (hl : (encN n).length ≤ 8) (k : Nat) (hk : (encN n).length = k) :
    decN (encN n) (k : Int) = n ∧ decE (encN n) (k : Int) = 0 ∧ decE (encN n) ((k : Int) - 1) = 15 := by
  have hb := rdN_encN n h1 h2
  have h3 := ok_yes (encN n) (k : Int) (by omega) hl (by rw [hb])
  rw [hb] at h3
  exact ⟨h3.1, h3.2, (ok_long (encN n) ((k : Int) - 1) (.inl (by omega))).2⟩

set_option maxRecDepth 100000 in
set_option maxHeartbeats 1000000 in
theorem back_any (w : World) (n : Int) (h1 : -9223372036854775808 ≤ n) (h2 : n ≤ 9223372036854775807) :
    Calls Try.prog 6 #[.int .i64 n] w fun e w' => e = .returned (.bool true) ∧ Below w.heap.size w w' := by
  have HE : Hid (∀ w, Calls Try.prog 9 #[.int .i64 n] w fun e w' => ∃ v', e = .returned v' ∧ Own 5 w.heap.size w' v' (encN n) ∧ Below w.heap.size w w') := fun w => encode_any w n h1 h2
  have HT : Hid (trN (encN n) = decide (n ≠ 0)) := trN_encN n h1 h2
  have HF : Hid ((encN n).length ≤ 8 → ∀ k, (encN n).length = k → decN (encN n) (k : Int) = n ∧ decE (encN n) (k : Int) = 0 ∧ decE (encN n) ((k : Int) - 1) = 15) := fun hl k hk => back_facts n h1 h2 hl k hk
  have HL : Hid ((encN n).length ≤ 9) := encN_length n
  clear h1 h2
  generalize encN n = E at HE HT HF HL
  obtain ⟨bz, hbz⟩ : ∃ b, (n != 0) = b := ⟨_, rfl⟩
  have HT2 : Hid (trN E = bz) := by
    show _ = _
    rw [HT.out, ← hbz, Bool.eq_iff_iff]; simp
  clear HT
  go_enter Try.func6, Try.ntmps6
  go_wp2_with fail
  refine (HE.out _).mono ?_
  rintro e w1 ⟨v1, rfl, ho1, hb1⟩
  have Hb1 : Hid (Gr w w1) := hb1
  have Ho1 : Hid (Rs w1 v1 E) := ho1.rd
  obtain ⟨ao, cap, rfl⟩ := ho1.rd.len
  clear ho1 hb1 HE
  go_wp2_with fail
  refine (truth_r _ _ _ E Ho1.out (by have := HL.out; omega) _ HT2.out).mono ?_
  rintro e w2 ⟨rfl, hb2⟩
  have Hb2 : Hid (Gr w w2) := Gr.trans Hb1.out hb2
  have Ho2 : Hid (Rs w2 (.slice ao E.length cap) E) := Ho1.out.gr hb2
  clear Ho1 Hb1 hb2
  by_cases h8 : 8 < E.length
  · have d8 : decide ((E.length : Int) > 8) = true := by simp; omega
    clear h8
    go_wp2_with (go_at_call 8; refine (alive_any _).mono ?_; rintro e w3 ⟨rfl, hb3⟩)
    go_ret
    exact ⟨rfl, Gr.trans Hb2.out hb3⟩
  · have d8 : decide ((E.length : Int) > 8) = false := by simp; omega
    have h8' : E.length ≤ 8 := by omega
    have HK : Hid (decN E (E.length : Int) = n ∧ decE E (E.length : Int) = 0 ∧ decE E ((E.length : Int) - 1) = 15) := HF.out h8' _ rfl
    clear h8 HF HL
    go_wp2_with fail
    refine (decode_r _ _ _ E (E.length : Int) Ho2.out (by omega) _ _ HK.out.1 HK.out.2.1).mono ?_
    rintro e w3 ⟨rfl, hb3⟩
    have Hb3 : Hid (Gr w w3) := Gr.trans Hb2.out hb3
    have Ho3 : Hid (Rs w3 (.slice ao E.length cap) E) := Ho2.out.gr hb3
    clear hb3 Hb2 Ho2
    go_wp2_with fail
    refine (decode_r _ _ _ E ((E.length : Int) - 1) Ho3.out (by omega) _ _ rfl HK.out.2.2).mono ?_
    rintro e w4 ⟨rfl, hb4⟩
    have Hb4 : Hid (Gr w w4) := Gr.trans Hb3.out hb4
    clear hb4 Hb3 Ho3
    go_wp2_with fail
    refine (alive_any _).mono ?_
    rintro e w5 ⟨rfl, hb5⟩
    go_wp2
    go_ret
    exact ⟨rfl, Gr.trans Hb4.out hb5⟩
end Go.Proofs.Ytcbfjhcblajkjaa
