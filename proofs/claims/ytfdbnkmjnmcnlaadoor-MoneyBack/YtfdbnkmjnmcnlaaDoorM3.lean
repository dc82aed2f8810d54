/-
  Contracts of Print: package money's, and the document's.
-/
import Derived.Test.YtfdbnkmjnmcnlaaDoorM2
namespace Go.Proofs.YtfdbnkmjnmcnlaaDoor
open Go.RowKit

theorem nd20 (u : Nat) (h : u < 18446744073709551616) : Lib.nDigits u ≤ 20 := by
  by_cases h1 : 1 ≤ u
  · have := Lib.numDigits_eq u h1 h; split at this <;> omega
  · rw [Lib.nDigits_small (by omega)]; omega
theorem dec_size (u : Nat) : (⟨(Lib.decDigits u).toArray⟩ : ByteArray).size = Lib.nDigits u := by simp [ByteArray.size, Lib.decDigits_length]

set_option maxHeartbeats 1000000 in
set_option maxRecDepth 100000 in
theorem print_any (v : Nat) (hv : v < 18446744073709551616) (w : World) (htab : Tb w) :
    Calls Tryd.prog 14 #[.int .u64 (v : Int)] w fun e w' => e = .returned (.string ⟨(Lib.decDigits (v / 100000000) ++ 46 :: (Lib.decDigits (100000000 + v % 100000000)).drop 1).toArray⟩) ∧ Below w.heap.size w w' := by
  have HT : Hid (Tb w) := htab
  have e1 : (v : Int) / 100000000 = ((v / 100000000 : Nat) : Int) := by omega
  have e2 : 100000000 + (v : Int) % 100000000 = ((100000000 + v % 100000000 : Nat) : Int) := by omega
  have H1 : Hid (v / 100000000 < 18446744073709551616) := by show _ < _; omega
  have H2 : Hid (100000000 + v % 100000000 < 18446744073709551616) := by show _ < _; omega
  generalize v / 100000000 = q at *
  generalize 100000000 + v % 100000000 = r at *
  have ew1 : IntKind.u64.wrap (q : Int) = (q : Int) := by have := H1.out; rw [IntKind.wrap_u64]; omega
  have ew2 : IntKind.u64.wrap (r : Int) = (r : Int) := by have := H2.out; rw [IntKind.wrap_u64]; omega
  clear htab hv
  go_enter Tryd.func14, Tryd.ntmps14
  obtain ⟨S1, HS1⟩ : ∃ S : ByteArray, Hid (S = ⟨(Lib.decDigits q).toArray⟩) := ⟨_, rfl⟩
  obtain ⟨S2, HS2⟩ : ∃ S : ByteArray, Hid (S = ⟨(Lib.decDigits r).toArray⟩) := ⟨_, rfl⟩
  have hs2 : 1 ≤ S2.size := by rw [HS2.out, dec_size]; exact Lib.nDigits_pos r
  have hs3 : S1.size ≤ 20 := by rw [HS1.out, dec_size]; exact nd20 _ H1.out
  have hs4 : S2.size ≤ 20 := by rw [HS2.out, dec_size]; exact nd20 _ H2.out
  go_wp2_with fail
  refine (fmt_any q H1.out w HT.out).mono ?_
  rintro e w1 ⟨rfl, hb1⟩
  rw [← HS1.out]
  go_wp2_with fail
  refine (fmt_any r H2.out w1 (HT.out.gr hb1)).mono ?_
  rintro e w2 ⟨rfl, hb2⟩
  rw [← HS2.out]
  go_wp2
  go_ret
  refine ⟨?_, hb1.trans (hb2.mono hb1.size)⟩
  show Ending.returned (.string (S1 ++ ⟨[46].toArray⟩ ++ S2.extract 1 S2.size)) = _
  rw [HS1.out, HS2.out, tx_drop _ _ _ (tx_size _), tx_append, tx_append, List.append_assoc]
  rfl
end Go.Proofs.YtfdbnkmjnmcnlaaDoor
