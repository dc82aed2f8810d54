/-
  Contracts of package number's Decode and the document's.
-/
import Derived.Test.YtcbfjhcblajkjaaN3
namespace Go.Proofs.Ytcbfjhcblajkjaa
open Go.RowKit

theorem ok_long (l : List UInt8) (most : Int) (h : (l.length : Int) > most ∨ 8 < l.length) : decN l most = 0 ∧ decE l most = 15 := by
  have : okN l most = false := by
    unfold okN
    rw [Bool.and_eq_false_iff, Bool.and_eq_false_iff]
    left
    rcases h with h | h
    · left; simp; omega
    · right; simp; omega
  unfold decN decE
  rw [this]; exact ⟨rfl, rfl⟩
theorem ok_not (l : List UInt8) (most : Int) (h : encN (rdN l) ≠ l) : decN l most = 0 ∧ decE l most = 15 := by
  have : okN l most = false := by
    unfold okN
    rw [Bool.and_eq_false_iff]
    right; simp [h]
  unfold decN decE
  rw [this]; exact ⟨rfl, rfl⟩
theorem ok_yes (l : List UInt8) (most : Int) (h1 : (l.length : Int) ≤ most) (h2 : l.length ≤ 8) (h : encN (rdN l) = l) : decN l most = rdN l ∧ decE l most = 0 := by
  have : okN l most = true := by
    unfold okN; simp [h, h1, h2]
  unfold decN decE
  rw [this]; exact ⟨rfl, rfl⟩

set_option maxHeartbeats 1000000 in
theorem decode_long (w : World) (v : Value) (B : Nat) (l : List UInt8) (most : Int) (h : Rd B w v l) (hl : l.length ≤ 1000000) (hm : (l.length : Int) > most ∨ 8 < l.length) :
    Calls Try.prog 13 #[v, .int .i64 most] w fun e w' => e = .returned (.tuple #[.int .i64 (decN l most), .int .i64 (decE l most)]) ∧ Below w.heap.size w w' := by
  obtain ⟨ao, cap, rfl⟩ := h.len
  have HE : Hid (decN l most = 0 ∧ decE l most = 15) := ok_long l most hm
  by_cases h8 : 8 < most
  · have hc : 8 < l.length := by omega
    clear h hm
    go_enter Try.func13, Try.ntmps13
    go_wp2
    go_ret2
    rw [HE.out.1, HE.out.2]
    exact ⟨rfl, Below.refl _ _⟩
  · have hc : most < (l.length : Int) := by omega
    have h9 : most ≤ 8 := by omega
    clear h hm h8
    go_enter Try.func13, Try.ntmps13
    go_wp2
    go_ret2
    rw [HE.out.1, HE.out.2]
    exact ⟨rfl, Below.refl _ _⟩

theorem equal_t (w : World) (A B : Nat) (u v : Value) (l m : List UInt8) (hu : Rd A w u l) (hv : Rd B w v m) (h : l = m) :
    Calls Try.prog 19 #[u, v] w fun e w' => e = .returned (.bool true) ∧ w' = w := by
  have := equal_any w A B u v l m hu hv
  rwa [decide_eq_true h] at this
theorem equal_f (w : World) (A B : Nat) (u v : Value) (l m : List UInt8) (hu : Rd A w u l) (hv : Rd B w v m) (h : l ≠ m) :
    Calls Try.prog 19 #[u, v] w fun e w' => e = .returned (.bool false) ∧ w' = w := by
  have := equal_any w A B u v l m hu hv
  rwa [decide_eq_false h] at this

set_option maxHeartbeats 1000000 in
theorem decode_short (w : World) (v : Value) (B : Nat) (l : List UInt8) (most : Int) (h : Rd B w v l) (h1 : (l.length : Int) ≤ most) (h2 : l.length ≤ 8) :
    Calls Try.prog 13 #[v, .int .i64 most] w fun e w' => e = .returned (.tuple #[.int .i64 (decN l most), .int .i64 (decE l most)]) ∧ Below w.heap.size w w' := by
  have hrd : Hid (Rs w v l) := h.rs
  obtain ⟨ao, cap, rfl⟩ := h.len
  have HB := rdN_lt8 l h2
  have HR : Hid (-9223372036854775808 ≤ rdN l ∧ rdN l ≤ 9223372036854775807) := ⟨by omega, by omega⟩
  have HL : Hid ((encN (rdN l)).length ≤ 9) := encN_length _
  have HY : Hid (encN (rdN l) = l → decN l most = rdN l ∧ decE l most = 0) := fun h => ok_yes l most h1 h2 h
  have HN : Hid (encN (rdN l) ≠ l → decN l most = 0 ∧ decE l most = 15) := fun h => ok_not l most h
  have H2 : Hid (l.length ≤ 8) := h2
  clear h HB
  by_cases h8 : 8 < most
  · clear h1
    go_enter Try.func13, Try.ntmps13
    go_wp2_with fail
    refine (read_any _ _ _ l hrd.out H2.out).mono ?_
    rintro e w1 ⟨rfl, rfl⟩
    go_wp2_with fail
    refine (encode_any _ _ HR.out.1 HR.out.2).mono ?_
    rintro e w2 ⟨v2, rfl, ho2, hb2⟩
    go_wp2_with fail
    by_cases he : encN (rdN l) = l
    · refine (equal_t _ _ _ _ _ _ _ ho2.rd (hrd.out.gr hb2) he).mono ?_
      have HG : Hid (decN l most = rdN l ∧ decE l most = 0) := HY.out he
      clear he
      rintro e w3 ⟨rfl, rfl⟩
      go_wp2
      go_ret2
      rw [HG.out.1, HG.out.2]
      exact ⟨rfl, hb2⟩
    · refine (equal_f _ _ _ _ _ _ _ ho2.rd (hrd.out.gr hb2) he).mono ?_
      have HG : Hid (decN l most = 0 ∧ decE l most = 15) := HN.out he
      clear he
      rintro e w3 ⟨rfl, rfl⟩
      go_wp2
      go_ret2
      rw [HG.out.1, HG.out.2]
      exact ⟨rfl, hb2⟩
  · have h9 : most ≤ 8 := by omega
    clear h8
    go_enter Try.func13, Try.ntmps13
    go_wp2_with fail
    refine (read_any _ _ _ l hrd.out H2.out).mono ?_
    rintro e w1 ⟨rfl, rfl⟩
    go_wp2_with fail
    refine (encode_any _ _ HR.out.1 HR.out.2).mono ?_
    rintro e w2 ⟨v2, rfl, ho2, hb2⟩
    go_wp2_with fail
    by_cases he : encN (rdN l) = l
    · refine (equal_t _ _ _ _ _ _ _ ho2.rd (hrd.out.gr hb2) he).mono ?_
      have HG : Hid (decN l most = rdN l ∧ decE l most = 0) := HY.out he
      clear he
      rintro e w3 ⟨rfl, rfl⟩
      go_wp2
      go_ret2
      rw [HG.out.1, HG.out.2]
      exact ⟨rfl, hb2⟩
    · refine (equal_f _ _ _ _ _ _ _ ho2.rd (hrd.out.gr hb2) he).mono ?_
      have HG : Hid (decN l most = 0 ∧ decE l most = 15) := HN.out he
      clear he
      rintro e w3 ⟨rfl, rfl⟩
      go_wp2
      go_ret2
      rw [HG.out.1, HG.out.2]
      exact ⟨rfl, hb2⟩

/-- Decode: what is told of any bytes. -/
theorem decode_any (w : World) (v : Value) (B : Nat) (l : List UInt8) (most : Int) (h : Rd B w v l) (hl : l.length ≤ 1000000) :
    Calls Try.prog 13 #[v, .int .i64 most] w fun e w' => e = .returned (.tuple #[.int .i64 (decN l most), .int .i64 (decE l most)]) ∧ Below w.heap.size w w' := by
  by_cases hm : (l.length : Int) > most ∨ 8 < l.length
  · exact decode_long w v B l most h hl hm
  · exact decode_short w v B l most h (by omega) (by omega)
end Go.Proofs.Ytcbfjhcblajkjaa
