/-
  Contracts of Decode, whole, and of the document's Decode.
-/
import Derived.Test.YtdoopjejihfpaaaH4
namespace Go.Proofs.Ytdoopjejihfpaaa
open Go.RowKit

theorem decode_any (w : World) (s : ByteArray) (hs : s.size ≤ 1000000) :
    Calls Try.prog 11 #[.string s] w fun e w' => ∃ v, e = .returned (.tuple #[v, .int .i64 (decE (bl s))]) ∧ Own 5 w.heap.size w' v (decR (bl s)) ∧ Below w.heap.size w w' := by
  by_cases h : s.size % 2 = 0
  · exact decode_even w s hs (s.size / 2) (by omega)
  · have hd := dec_no (bl s) (by rw [okS, bl_length]; simp [h])
    refine (decode_odd w s hs h).mono fun e w' ⟨he, hb⟩ => ⟨.slice none 0 0, ?_, ?_, hb⟩
    · rw [hd.2]; exact he
    · rw [hd.1]; exact Own.nil _ _ _

set_option maxHeartbeats 400000 in
theorem refDecode_odd (w : World) (s : ByteArray) (hs : s.size ≤ 1000000) (ho : ¬ s.size % 2 = 0) :
    Calls Try.prog 12 #[.string s] w fun e w' => e = .returned (.tuple #[.slice none 0 0, .int .i64 3]) ∧ Below w.heap.size w w' := by
  have h1 : s.size % 2 = 1 := by omega
  have h2 : ((s.size : Int) % 2 == 1) = true := by simp; omega
  clear h1 ho
  go_enter Try.func12, Try.ntmps12
  go_wp2
  go_ret2
  exact ⟨rfl, (Below.refl _ _).alloc (Nat.le_refl _) _⟩

set_option maxHeartbeats 1000000 in
theorem refDecode_even (w : World) (s : ByteArray) (hs : s.size ≤ 1000000) (m : Nat) (hm : 2 * m = s.size) :
    Calls Try.prog 12 #[.string s] w fun e w' => ∃ v, e = .returned (.tuple #[v, .int .i64 (decE (bl s))]) ∧ Own 5 w.heap.size w' v (decR (bl s)) ∧ Below w.heap.size w w' := by
  have h2 : ((s.size : Int) % 2 == 1) = false := by simp; omega
  have HM : Hid (2 * m = s.size) := hm
  clear hm
  go_enter Try.func12, Try.ntmps12
  go_wp2
  go_loopw [4, 5] (fun b i wr => ∃ k : Nat, k ≤ m ∧ i = .int .i64 (2 * k : Nat) ∧ digTo s (2 * k) = true ∧ Own 5 w.heap.size wr b (decB ((bl s).take (2 * k))) ∧ Below w.heap.size w wr) (fun _ i _ => s.size - (intOf i).toNat)
  case atStart => exact ⟨0, by omega, rfl, rfl, by simpa [decB] using Own.empty 5 w.heap.size w (Nat.le_refl _), (Below.refl _ _).alloc (Nat.le_refl _) _⟩
  case round =>
    obtain ⟨k, hk, rfl, hall, ho, hb⟩ := hrel
    have Hall : Hid (digTo s (2 * k) = true) := hall
    have hM := HM.out
    clear hall
    by_cases hlt : k < m
    · have hlt2 : 2 * k + 1 < s.size := by omega
      obtain ⟨a, b, han, hbn, hia, hib, HT, HD, HN⟩ := pair_at s k hlt2
      have hlen : (decB ((bl s).take (2 * k))).length ≤ 1000000 := by rw [decB_length]; simp [bl_length]; omega
      clear hM
      have hlt3 : 2 * (k : Int) < (s.size : Int) := by omega
      cases da : isD a with
      | false =>
        have HF : Hid (decR (bl s) = [] ∧ decE (bl s) = 3) := dec_no _ (by rw [okS, HN.out (.inl da), Bool.and_false])
        have va := (valI_of a).2 da
        clear HN HD da
        go_wp2_with fail
        go_quiet ((go_at_call 18; exact Calls.quiet_of_same ((refValue_any _ _).mono fun e w' h => ⟨h.1, h.2.symm⟩)))
        go_wp2
        go_ret2
        rw [HF.out.1, HF.out.2]
        exact ⟨_, rfl, Own.nil _ _ _, hb.trans (Below.drewN' _ _ _)⟩
      | true =>
        have va := (valI_of a).1 da
        cases db : isD b with
        | false =>
          have HF : Hid (decR (bl s) = [] ∧ decE (bl s) = 3) := dec_no _ (by rw [okS, HN.out (.inr db), Bool.and_false])
          have vb := (valI_of b).2 db
          have la := val_lt a
          have dn : decide ((val a : Int) < 0) = false := by simp
          clear HN HD da db
          go_wp2_with fail
          go_quiet ((go_at_call 18; exact Calls.quiet_of_same ((refValue_any _ _).mono fun e w' h => ⟨h.1, h.2.symm⟩)))
          go_wp2
          go_ret2
          rw [HF.out.1, HF.out.2]
          exact ⟨_, rfl, Own.nil _ _ _, hb.trans (Below.drewN' _ _ _)⟩
        | true =>
          have HF : Hid (digTo s (2 * (k + 1)) = true) := by show _ = _; rw [HD.out, Hall.out, da, db]; rfl
          have vb := (valI_of b).1 db
          have la := val_lt a
          have lb := val_lt b
          clear HN HD da db
          go_wp2_with fail
          go_quiet ((go_at_call 18; exact Calls.quiet_of_same ((refValue_any _ _).mono fun e w' h => ⟨h.1, h.2.symm⟩)))
          go_wp2_with (at_builtin; refine wpList_append_rd Try.bt rfl (.tmp 34) (.tmp 40) rfl w.heap.size _ _ _ _ [UInt8.ofNat (val a * 16 + val b)] rfl ((ho.keep (Below.drewN' _ _ _)).alloc _) rfl (Rd.one 5 _ _ _ (byte_pair la lb)) (by show _ + 1 ≤ _; omega) (by have := hb.size; simp; omega) ?_; intro v2 w2 ho2 hb2)
          go_roundw
          case rel => exact ⟨k + 1, by omega, by go_num, HF.out, by rw [HT.out]; exact ho2, hb.trans (((Below.drewN' _ _ _).trans ((Below.refl _ _).alloc (by have := hb.size; simp; omega) _)).trans hb2)⟩
          case measure => simp [intOf]; omega
    · obtain rfl : k = m := by omega
      have HE := digTo_end s k hM
      rw [HE.2] at ho
      have HD : Hid (decR (bl s) = decB (bl s) ∧ decE (bl s) = 0) := dec_ok _ (by rw [okS, ← HE.1, Hall.out, bl_length, ← hM]; simp)
      clear HE hM
      have hlt3 : ¬ 2 * (k : Int) < (s.size : Int) := by have := HM.out; omega
      go_wp2
      go_ret2
      rw [HD.out.1, HD.out.2]
      exact ⟨_, rfl, ho, hb⟩

theorem refDecode_any (w : World) (s : ByteArray) (hs : s.size ≤ 1000000) :
    Calls Try.prog 12 #[.string s] w fun e w' => ∃ v, e = .returned (.tuple #[v, .int .i64 (decE (bl s))]) ∧ Own 5 w.heap.size w' v (decR (bl s)) ∧ Below w.heap.size w w' := by
  by_cases h : s.size % 2 = 0
  · exact refDecode_even w s hs (s.size / 2) (by omega)
  · have hd := dec_no (bl s) (by rw [okS, bl_length]; simp [h])
    refine (refDecode_odd w s hs h).mono fun e w' ⟨he, hb⟩ => ⟨.slice none 0 0, ?_, ?_, hb⟩
    · rw [hd.2]; exact he
    · rw [hd.1]; exact Own.nil _ _ _
end Go.Proofs.Ytdoopjejihfpaaa
