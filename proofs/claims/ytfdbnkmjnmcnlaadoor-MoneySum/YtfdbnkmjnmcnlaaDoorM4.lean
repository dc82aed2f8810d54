/-
  Contracts of Print as the document has it, and package money's in the same words.
-/
import Derived.Test.YtfdbnkmjnmcnlaaDoorM3
import Derived.Test.YtfdbnkmjnmcnlaaDoorCoin
namespace Go.Proofs.YtfdbnkmjnmcnlaaDoor
open Go.RowKit

theorem print_spec (v : Nat) (hv : v < 18446744073709551616) (w : World) (htab : Tb w) :
    Calls Tryd.prog 14 #[.int .u64 (v : Int)] w fun e w' => e = .returned (.string ⟨(printL v).toArray⟩) ∧ Below w.heap.size w w' := by
  rw [← print_eq]
  exact print_any v hv w htab

/-- The text of one new byte, a figure. -/
theorem conv_digit (w : World) (m : Nat) (x : Int) (hx : x = ((48 + m % 10 : Nat) : Int)) : (convert 45 9 (.slice (some ⟨w.heap.size, 0, none⟩) 1 1)).run Tryd.prog (w.alloc (.cells #[.int .u8 x] 5)) = .ok (.string ⟨[UInt8.ofNat (48 + m % 10)].toArray⟩) (w.alloc (.cells #[.int .u8 x] 5)) :=
  run_conv_rd Tryd.bt 9 (by kernel_rfl) _ _ _ [UInt8.ofNat (48 + m % 10)] (Rd.one 5 w (UInt8.ofNat (48 + m % 10)) _ (by rw [UInt8.toNat_ofNat']; omega))

set_option maxHeartbeats 1000000 in
set_option maxRecDepth 100000 in
theorem figures_any (w : World) (n k : Nat) (hn : n < 18446744073709551616) (hk : k ≤ 8) (hlen : (figs n k).length ≤ 1000) :
    Calls Tryd.prog 21 #[.int .u64 (n : Int), .int .i64 (k : Int)] w fun e w' => e = .returned (.string ⟨(figs n k).toArray⟩) ∧ Below w.heap.size w w' := by
  have HL : Hid ((figs n k).length ≤ 1000) := hlen
  have HN : Hid (n < 18446744073709551616) := hn
  clear hlen hn
  go_enter Tryd.func21, Tryd.ntmps21
  go_wp2_with fail
  go_loopw [0, 1, 5] (fun a b s wr => ∃ (m : Nat) (z : Int) (t : List UInt8), a = .int .u64 m ∧ b = .int .i64 z ∧ s = .string ⟨t.toArray⟩ ∧ Hid (figs n k = figs m z.toNat ++ t ∧ z = (k : Int) - t.length ∧ m < 18446744073709551616) ∧ Below w.heap.size w wr) (fun a b _ _ => (intOf a).toNat + (intOf b).toNat)
  case atStart => exact ⟨n, k, [], rfl, rfl, rfl, ⟨by simp, by simp, HN.out⟩, Below.refl _ _⟩
  case round =>
    obtain ⟨m, z, t, rfl, rfl, rfl, HR, hb⟩ := hrel
    have ht : t.length ≤ 1000 := by have h1 := HR.out.1; have h2 := HL.out; rw [h1] at h2; simp at h2; omega
    have hz : -1000 ≤ z ∧ z ≤ 8 := by have := HR.out.2.1; omega
    have hwm : IntKind.u64.wrap ((m : Int) / 10) = ((m / 10 : Nat) : Int) := by have := HR.out.2.2; rw [IntKind.wrap_u64]; omega
    obtain ⟨S, HS⟩ : ∃ S : ByteArray, Hid (S = ⟨t.toArray⟩) := ⟨_, rfl⟩
    have hS : S.size ≤ 1000 := by rw [HS.out, tx_size]; exact ht
    rw [← HS.out]
    have hcv := conv_digit wr m (48 + (m : Int) % 10) (by omega)
    have hcv2 := fun h : m = 0 => conv_digit wr m 48 (by subst h; rfl)
    obtain ⟨D, HD⟩ : ∃ D : ByteArray, Hid (D = ⟨[UInt8.ofNat (48 + m % 10)].toArray⟩) := ⟨_, rfl⟩
    have hD : D.size = 1 := by rw [HD.out, tx_size]; rfl
    rw [← HD.out] at hcv hcv2
    by_cases hmz : 0 < m ∨ 0 < z
    · have HN : Hid (figs n k = figs (m / 10) (z - 1).toNat ++ (UInt8.ofNat (48 + m % 10) :: t)) := by
        show _ = _
        rw [HR.out.1, figs_step m z.toNat (by omega), show z.toNat - 1 = (z - 1).toNat by omega, List.append_assoc]
        rfl
      have hDS : D ++ S = ⟨(UInt8.ofNat (48 + m % 10) :: t).toArray⟩ := by rw [HD.out, HS.out, tx_append]; rfl
      have HDS : Hid (D ++ S = ⟨(UInt8.ofNat (48 + m % 10) :: t).toArray⟩) := hDS
      clear hDS
      by_cases hm : 0 < m
      · clear hcv2
        go_wp2
        go_roundw
        case rel => exact ⟨m / 10, z - 1, UInt8.ofNat (48 + m % 10) :: t, by go_num, rfl, by rw [HDS.out], ⟨HN.out, by have := HR.out.2.1; simp; omega, by have := HR.out.2.2; omega⟩, hb.alloc hb.size _⟩
        case measure => simp [intOf]; omega
      · obtain rfl : m = 0 := by omega
        have hz1 : 0 < z := by omega
        have hcv3 := hcv2 rfl
        clear hcv hcv2
        go_wp2
        go_roundw
        case rel => exact ⟨0 / 10, z - 1, UInt8.ofNat (48 + 0 % 10) :: t, by go_num, rfl, by rw [HDS.out], ⟨HN.out, by have := HR.out.2.1; simp; omega, by have := HR.out.2.2; omega⟩, hb.alloc hb.size _⟩
        case measure => simp [intOf]; omega
    · obtain rfl : m = 0 := by omega
      have hz1 : ¬ 0 < z := by omega
      have HE : Hid (figs n k = t) := by show _ = _; rw [HR.out.1, show z.toNat = 0 by omega, figs_zero]; rfl
      go_wp2
      go_ret
      rw [HE.out, HS.out]
      exact ⟨rfl, hb⟩

theorem figs1_len (u : Nat) (h : u < 18446744073709551616) : (figs u 1).length ≤ 20 := by
  rw [← dec_eq, Lib.decDigits_length]; exact nd20 u h
theorem print_len (v : Nat) (hv : v < 18446744073709551616) : (printL v).length ≤ 29 := by
  have h1 := figs1_len (v / 100000000) (by omega)
  have h2 := figs_length_le 8 (v % 100000000) (by omega)
  simp only [printL, List.length_append, List.length_cons]
  omega

set_option maxHeartbeats 1000000 in
set_option maxRecDepth 100000 in
theorem rprint_spec (v : Nat) (hv : v < 18446744073709551616) (w : World) :
    Calls Tryd.prog 15 #[.int .u64 (v : Int)] w fun e w' => e = .returned (.string ⟨(printL v).toArray⟩) ∧ Below w.heap.size w w' := by
  have e1 : (v : Int) / 100000000 = ((v / 100000000 : Nat) : Int) := by omega
  have e2 : (v : Int) % 100000000 = ((v % 100000000 : Nat) : Int) := by omega
  have H1 : Hid (v / 100000000 < 18446744073709551616) := by show _ < _; omega
  have H2 : Hid (v % 100000000 < 18446744073709551616) := by show _ < _; omega
  have H3 : Hid ((figs (v / 100000000) 1).length ≤ 1000) := by have := figs1_len _ H1.out; show _ ≤ _; omega
  have H4 : Hid ((figs (v % 100000000) 8).length ≤ 1000) := by have := figs_length_le 8 (v % 100000000) (by omega); show _ ≤ _; omega
  unfold printL
  generalize v / 100000000 = q at *
  generalize v % 100000000 = r at *
  have ew1 : IntKind.u64.wrap (q : Int) = (q : Int) := by have := H1.out; rw [IntKind.wrap_u64]; omega
  have ew2 : IntKind.u64.wrap (r : Int) = (r : Int) := by have := H2.out; rw [IntKind.wrap_u64]; omega
  clear hv
  obtain ⟨S1, HS1⟩ : ∃ S : ByteArray, Hid (S = ⟨(figs q 1).toArray⟩) := ⟨_, rfl⟩
  obtain ⟨S2, HS2⟩ : ∃ S : ByteArray, Hid (S = ⟨(figs r 8).toArray⟩) := ⟨_, rfl⟩
  have hs3 : S1.size ≤ 1000 := by rw [HS1.out, tx_size]; exact H3.out
  have hs4 : S2.size ≤ 1000 := by rw [HS2.out, tx_size]; exact H4.out
  go_enter Tryd.func15, Tryd.ntmps15
  go_wp2_with fail
  refine (figures_any w q 1 H1.out (by omega) H3.out).mono ?_
  rintro e w1 ⟨rfl, hb1⟩
  rw [← HS1.out]
  go_wp2_with fail
  refine (figures_any w1 r 8 H2.out (by omega) H4.out).mono ?_
  rintro e w2 ⟨rfl, hb2⟩
  rw [← HS2.out]
  go_wp2
  go_ret
  refine ⟨?_, hb1.trans (hb2.mono hb1.size)⟩
  show Ending.returned (.string (S1 ++ ⟨[46].toArray⟩ ++ S2)) = _
  rw [HS1.out, HS2.out, tx_append, tx_append, List.append_assoc]
  rfl
end Go.Proofs.YtfdbnkmjnmcnlaaDoor
