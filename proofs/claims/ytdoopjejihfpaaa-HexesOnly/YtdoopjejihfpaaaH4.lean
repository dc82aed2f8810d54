/-
  Contracts of Decode: package hexes', and the document's.
-/
import Derived.Test.YtdoopjejihfpaaaH3
namespace Go.Proofs.Ytdoopjejihfpaaa
open Go.RowKit

/-- A text's bytes. -/
def bl (s : ByteArray) : List UInt8 := s.data.toList
theorem bl_length (s : ByteArray) : (bl s).length = s.size := by simp [bl]
theorem bl_mk (l : List UInt8) : bl ⟨l.toArray⟩ = l := by simp [bl]
theorem bl_at (s : ByteArray) (k : Nat) (h : k < s.size) : (bl s)[k]'(by rw [bl_length]; exact h) = s[k] := by simp [bl]; rfl
theorem run_at (s : ByteArray) (k : Nat) (h : k < s.size) (c : Nat) (hc : ((bl s)[k]'(by rw [bl_length]; exact h)).toNat = c) (w : World) (i : Int) (hi : i = (k : Int)) : (Instr.index 9 (.string s) (.int .i64 i)).run Try.prog w = .ok (.int .u8 c) w := by
  subst hi hc
  rw [bl_at s k h]
  have hu : Try.prog.underlying 9 = some .string := by kernel_rfl
  have e : (s[k]? : Option UInt8) = some s[k] := getElem?_pos s k h
  simp [Instr.index, asIntOf, run_underlying hu, e]

theorem or4 (a b : Nat) (ha : a < 16) (hb : b < 16) : bits .or .u8 ((a : Int) * 16) (b : Int) = ((a * 16 + b : Nat) : Int) := by
  have : ∀ a b : Fin 16, bits .or .u8 ((a.val : Int) * 16) (b.val : Int) = ((a.val * 16 + b.val : Nat) : Int) := by decide +kernel
  exact this ⟨a, ha⟩ ⟨b, hb⟩

theorem byte_pair {a b : Nat} (ha : a < 16) (hb : b < 16) : ((a : Int) * 16 + (b : Int)) = ((UInt8.ofNat (a * 16 + b)).toNat : Int) := by
  simp only [UInt8.toNat_ofNat']
  omega

def digTo (s : ByteArray) (n : Nat) : Bool := allD ((bl s).take n)
theorem allD_append (l m : List UInt8) : allD (l ++ m) = (allD l && allD m) := by simp [allD]

/-- The pair at place 2 k: what is read, and what becomes of it. -/
theorem pair_at (s : ByteArray) (k : Nat) (h : 2 * k + 1 < s.size) : ∃ a b : Nat, a < 256 ∧ b < 256 ∧
    (∀ w, (Instr.index 9 (.string s) (.int .i64 (2 * (k : Int)))).run Try.prog w = .ok (.int .u8 a) w) ∧ (∀ w, (Instr.index 9 (.string s) (.int .i64 (2 * (k : Int) + 1))).run Try.prog w = .ok (.int .u8 b) w) ∧
    Hid (decB ((bl s).take (2 * (k + 1))) = decB ((bl s).take (2 * k)) ++ [UInt8.ofNat (val a * 16 + val b)]) ∧
    Hid (digTo s (2 * (k + 1)) = (digTo s (2 * k) && (isD a && isD b))) ∧ Hid (isD a = false ∨ isD b = false → allD (bl s) = false) := by
  have h1 : 2 * k < (bl s).length := by rw [bl_length]; omega
  have h2 : 2 * k + 1 < (bl s).length := by rw [bl_length]; omega
  refine ⟨(bl s)[2 * k].toNat, (bl s)[2 * k + 1].toNat, UInt8.toNat_lt _, UInt8.toNat_lt _, fun w => run_at s (2 * k) (by omega) _ rfl w _ (by omega), fun w => run_at s (2 * k + 1) (by omega) _ rfl w _ (by omega), ?_, ?_, ?_⟩
  · exact decB_take (bl s) k h2
  · show _ = _
    unfold digTo
    rw [show 2 * (k + 1) = 2 * k + 1 + 1 by omega, List.take_succ_eq_append_getElem h2, List.take_succ_eq_append_getElem h1, allD_append, allD_append]
    simp [allD, Bool.and_assoc]
  · show _ → _
    rintro (h | h)
    · exact allD_not _ _ h1 h
    · exact allD_not _ _ h2 h
theorem digTo_end (s : ByteArray) (m : Nat) (h : 2 * m = s.size) : digTo s (2 * m) = allD (bl s) ∧ decB ((bl s).take (2 * m)) = decB (bl s) := by
  rw [digTo, List.take_of_length_le (by rw [bl_length]; omega)]
  exact ⟨rfl, rfl⟩

set_option maxHeartbeats 400000 in
theorem decode_odd (w : World) (s : ByteArray) (hs : s.size ≤ 1000000) (ho : ¬ s.size % 2 = 0) :
    Calls Try.prog 11 #[.string s] w fun e w' => e = .returned (.tuple #[.slice none 0 0, .int .i64 3]) ∧ Below w.heap.size w w' := by
  have h1 : s.size % 2 = 1 := by omega
  have h2 : ((s.size : Int) % 2 != 0) = true := by simp; omega
  clear h1 ho
  go_enter Try.func11, Try.ntmps11
  go_wp2
  go_ret2
  exact ⟨rfl, Below.refl _ _⟩

set_option maxHeartbeats 1000000 in
theorem decode_even (w : World) (s : ByteArray) (hs : s.size ≤ 1000000) (m : Nat) (hm : 2 * m = s.size) :
    Calls Try.prog 11 #[.string s] w fun e w' => ∃ v, e = .returned (.tuple #[v, .int .i64 (decE (bl s))]) ∧ Own 5 w.heap.size w' v (decR (bl s)) ∧ Below w.heap.size w w' := by
  have h2 : ((s.size : Int) % 2 != 0) = false := by simp; omega
  have HM : Hid (2 * m = s.size) := hm
  clear hm
  go_enter Try.func11, Try.ntmps11
  go_wp2_with (at_make; refine wpList_make_rd Try.bt rfl _ _ rfl w.heap.size _ _ _ rfl rfl (by omega) (by omega) (Nat.le_refl _) ?_; intro v1 w1 ho1 hb1)
  go_loopw [4, 5] (fun b i wr => ∃ k : Nat, k ≤ m ∧ i = .int .i64 (2 * k : Nat) ∧ digTo s (2 * k) = true ∧ Own 5 w.heap.size wr b (decB ((bl s).take (2 * k))) ∧ Below w.heap.size w wr) (fun _ i _ => s.size - (intOf i).toNat)
  case atStart => exact ⟨0, by omega, rfl, rfl, by simpa [decB] using ho1, hb1⟩
  case round =>
    obtain ⟨k, hk, rfl, hall, ho, hb⟩ := hrel
    have Hall : Hid (digTo s (2 * k) = true) := hall
    have hM := HM.out
    clear hall
    by_cases hlt : k < m
    · have hlt2 : 2 * k + 1 < s.size := by omega
      obtain ⟨a, b, han, hbn, hia, hib, HT, HD, HN⟩ := pair_at s k hlt2
      have hlen : (decB ((bl s).take (2 * k))).length ≤ 1000000 := by rw [decB_length]; simp [bl_length]; omega
      clear hM
      have hlt3 : 2 * (k : Int) < (s.size : Int) := by omega
      cases da : isD a with
      | false =>
        have HF : Hid (decR (bl s) = [] ∧ decE (bl s) = 3) := dec_no _ (by rw [okS, HN.out (.inl da), Bool.and_false])
        clear HN HD
        go_wp2_with (go_at_call 17; refine (value_any _ _ (by assumption)).mono ?_; rintro e w' ⟨rfl, rfl⟩)
        go_ret2
        rw [HF.out.1, HF.out.2]
        exact ⟨_, rfl, Own.nil _ _ _, hb⟩
      | true =>
        cases db : isD b with
        | false =>
          have HF : Hid (decR (bl s) = [] ∧ decE (bl s) = 3) := dec_no _ (by rw [okS, HN.out (.inr db), Bool.and_false])
          clear HN HD
          go_wp2_with (go_at_call 17; refine (value_any _ _ (by assumption)).mono ?_; rintro e w' ⟨rfl, rfl⟩)
          go_ret2
          rw [HF.out.1, HF.out.2]
          exact ⟨_, rfl, Own.nil _ _ _, hb⟩
        | true =>
          have HF : Hid (digTo s (2 * (k + 1)) = true) := by show _ = _; rw [HD.out, Hall.out, da, db]; rfl
          have va := val_lt a
          have vb := val_lt b
          have hor := or4 (val a) (val b) va vb
          clear HN HD
          go_wp2_with (first | (go_at_call 17; refine (value_any _ _ (by assumption)).mono ?_; rintro e w' ⟨rfl, rfl⟩) | (at_builtin; refine wpList_append_rd Try.bt rfl (.tmp 45) (.tmp 50) rfl w.heap.size _ _ _ _ [UInt8.ofNat (val a * 16 + val b)] rfl (ho.alloc _) rfl (Rd.one 5 wr _ _ (byte_pair va vb)) (by show _ + 1 ≤ _; omega) (by have := hb.size; simp; omega) ?_; intro v2 w2 ho2 hb2))
          go_roundw
          case rel => exact ⟨k + 1, by omega, by go_num, HF.out, by rw [HT.out]; exact ho2, hb.trans (((Below.refl _ _).alloc (by have := hb.size; omega) _).trans hb2)⟩
          case measure => simp [intOf]; omega
    · obtain rfl : k = m := by omega
      have HE := digTo_end s k hM
      rw [HE.2] at ho
      have HD : Hid (decR (bl s) = decB (bl s) ∧ decE (bl s) = 0) := dec_ok _ (by rw [okS, ← HE.1, Hall.out, bl_length, ← hM]; simp)
      clear HE hM
      have hlt3 : ¬ 2 * (k : Int) < (s.size : Int) := by have := HM.out; omega
      go_wp2
      go_ret2
      rw [HD.out.1, HD.out.2]
      exact ⟨_, rfl, ho, hb⟩
end Go.Proofs.Ytdoopjejihfpaaa
