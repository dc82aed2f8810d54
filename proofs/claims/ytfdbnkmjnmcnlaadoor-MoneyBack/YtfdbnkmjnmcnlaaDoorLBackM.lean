/-
  The law MoneyBack, walked.
-/
import Derived.Test.YtfdbnkmjnmcnlaaDoorM13
namespace Go.Proofs.YtfdbnkmjnmcnlaaDoor
open Go.RowKit

set_option maxHeartbeats 2000000 in
set_option maxRecDepth 100000 in
theorem back_over (w : World) (v : Nat) (hv : v < 18446744073709551616) (ht : Tb w) (hm : ¬ v ≤ MM) :
    Calls Tryd.prog 7 #[.int .u64 (v : Int)] w fun e w' => e = .returned (.bool true) ∧ Below w.heap.size w w' := by
  have HT : Hid (Tb w) := ht
  have Hv : Hid (v < 18446744073709551616) := hv
  have Hm : Hid (¬ v ≤ MM) := hm
  clear ht hv hm
  obtain ⟨S, HS⟩ : ∃ S : ByteArray, Hid (S = ⟨(printL v).toArray⟩) := ⟨_, rfl⟩
  have Hbl : Hid (bl S = printL v) := by show _ = _; rw [HS.out, bl_mk]
  have hS : S.size ≤ 29 := by rw [← bl_length, Hbl.out]; exact print_len v Hv.out
  have HP : Hid (parseV (MM + 1) (bl S) = 0 ∧ parseE (MM + 1) (bl S) = 31) := by rw [Hbl.out]; exact print_over v Hm.out
  go_enter Tryd.func7, Tryd.ntmps7
  go_wp2_with fail
  refine (print_r v Hv.out w HT.out S HS.out).mono ?_
  rintro e w1 ⟨rfl, hb1⟩
  have HB1 : Hid (Below w.heap.size w w1) := hb1
  clear hb1
  go_wp2_with fail
  refine (parse_r w1 S (by omega) 0 31 HP.out.1 HP.out.2).mono ?_
  rintro e w2 ⟨rfl, hb2⟩
  have HB2 : Hid (Below w.heap.size w w2) := HB1.out.trans (hb2.mono HB1.out.size)
  clear hb2
  go_wp2_with (go_at_call 12; refine (check_no _ _ (by exact Hm.out)).mono ?_; rintro e w' ⟨rfl, rfl⟩)
  refine (alive_any _ (HT.out.gr HB2.out)).mono ?_
  rintro e w3 ⟨rfl, hb3⟩
  have HB3 : Hid (Below w.heap.size w w3) := HB2.out.trans (hb3.mono HB2.out.size)
  clear hb3
  go_wp2
  go_ret
  exact ⟨rfl, HB3.out⟩

set_option maxHeartbeats 2000000 in
set_option maxRecDepth 100000 in
theorem back_fine (w : World) (v : Nat) (hv : v < 18446744073709551616) (ht : Tb w) (hm : v ≤ MM) :
    Calls Tryd.prog 7 #[.int .u64 (v : Int)] w fun e w' => e = .returned (.bool true) ∧ Below w.heap.size w w' := by
  have HT : Hid (Tb w) := ht
  have Hv : Hid (v < 18446744073709551616) := hv
  have Hm : Hid (v ≤ MM) := hm
  clear ht hv hm
  obtain ⟨S, HS⟩ : ∃ S : ByteArray, Hid (S = ⟨(printL v).toArray⟩) := ⟨_, rfl⟩
  have Hbl : Hid (bl S = printL v) := by show _ = _; rw [HS.out, bl_mk]
  have hS : S.size ≤ 29 := by rw [← bl_length, Hbl.out]; exact print_len v Hv.out
  have HP : Hid (parseV (MM + 1) (bl S) = v ∧ parseE (MM + 1) (bl S) = 0) := by rw [Hbl.out]; exact print_back v Hm.out
  have HC : Hid (∃ p j, Cut v S p j) := by rw [HS.out]; exact ⟨_, _, Cut.start v⟩
  go_enter Tryd.func7, Tryd.ntmps7
  go_wp2_with fail
  refine (print_r v Hv.out w HT.out S HS.out).mono ?_
  rintro e w1 ⟨rfl, hb1⟩
  have HB1 : Hid (Below w.heap.size w w1) := hb1
  clear hb1
  go_wp2_with fail
  refine (parse_r w1 S (by omega) v 0 HP.out.1 HP.out.2).mono ?_
  rintro e w2 ⟨rfl, hb2⟩
  have HB2 : Hid (Below w.heap.size w w2) := HB1.out.trans (hb2.mono HB1.out.size)
  clear hb2
  go_wp2_with (go_at_call 12; refine (check_ok _ _ (by exact Hm.out)).mono ?_; rintro e w' ⟨rfl, rfl⟩)
  go_loop [6] (fun t => ∃ T : ByteArray, t = .string T ∧ T.size ≤ 29 ∧ Hid (∃ p j, Cut v T p j)) (fun t => tsize t)
  case atStart => exact ⟨S, rfl, hS, HC⟩
  case round =>
    obtain ⟨T, rfl, hT, HCut⟩ := hrel
    obtain ⟨p, j, hcut⟩ := HCut.out
    have hpos := hcut.pos
    have hi : T.size - 1 < (bl T).length := by rw [bl_length]; omega
    have hia := fun w => run_at T (T.size - 1) (by omega) _ rfl w ((T.size : Int) - 1) (by omega)
    have HCu : Hid (Cut v T p j) := hcut
    clear hcut HCut
    by_cases hc : (bl T)[T.size - 1].toNat = 48
    · have HX : Hid (∃ q j, Cut v (T.extract 0 (T.size - 1)) q j) := by obtain ⟨q, hq⟩ := HCu.out.step hi hc; exact ⟨q, _, hq⟩
      have Hsz : Hid ((T.extract 0 (T.size - 1)).size = T.size - 1) := by show _ = _; rw [ByteArray.size_extract]; omega
      rw [hc] at hia
      clear hc
      go_wp2
      go_round
      case rel => exact ⟨_, rfl, by rw [Hsz.out]; omega, HX⟩
      case measure => show (T.extract 0 (T.size - 1)).size < T.size; rw [Hsz.out]; omega
    · have hc8 : (((bl T)[T.size - 1].toNat : Int) == 48) = false := by simp; omega
      by_cases h46 : (bl T)[T.size - 1].toNat = 46
      · have HE : Hid (parseV (MM + 1) (bl (T.extract 0 (T.size - 1))) = v ∧ parseE (MM + 1) (bl (T.extract 0 (T.size - 1))) = 0) := HCu.out.done_point hi h46 Hm.out
        have Hsz : Hid ((T.extract 0 (T.size - 1)).size = T.size - 1) := by show _ = _; rw [ByteArray.size_extract]; omega
        rw [h46] at hia hc8
        clear hc h46
        go_wp2_with fail
        refine (parse_r w' (T.extract 0 (T.size - 1)) (by rw [Hsz.out]; omega) v 0 HE.out.1 HE.out.2).mono ?_
        rintro e w2 ⟨rfl, hb2⟩
        have HB3 : Hid (Below w.heap.size w w2) := HB2.out.trans (hb2.mono HB2.out.size)
        clear hb2
        go_wp2_with fail
        refine (alive_any _ (HT.out.gr HB3.out)).mono ?_
        rintro e w3 ⟨rfl, hb3⟩
        have HB4 : Hid (Below w.heap.size w w3) := HB3.out.trans (hb3.mono HB3.out.size)
        clear hb3
        go_wp2
        go_ret
        exact ⟨rfl, HB4.out⟩
      · have hc6 : (((bl T)[T.size - 1].toNat : Int) == 46) = false := by simp; omega
        have HE : Hid (parseV (MM + 1) (bl T) = v ∧ parseE (MM + 1) (bl T) = 0) := HCu.out.done_figure hi h46 Hm.out
        clear hc h46
        generalize (bl T)[T.size - 1].toNat = c at *
        go_wp2_with fail
        refine (parse_r w' T (by omega) v 0 HE.out.1 HE.out.2).mono ?_
        rintro e w2 ⟨rfl, hb2⟩
        have HB3 : Hid (Below w.heap.size w w2) := HB2.out.trans (hb2.mono HB2.out.size)
        clear hb2
        go_wp2_with fail
        refine (alive_any _ (HT.out.gr HB3.out)).mono ?_
        rintro e w3 ⟨rfl, hb3⟩
        have HB4 : Hid (Below w.heap.size w w3) := HB3.out.trans (hb3.mono HB3.out.size)
        clear hb3
        go_wp2
        go_ret
        exact ⟨rfl, HB4.out⟩

theorem back_all (w : World) (v : Nat) (hv : v < 18446744073709551616) (ht : Tb w) :
    Calls Tryd.prog 7 #[.int .u64 (v : Int)] w fun e w' => e = .returned (.bool true) ∧ Below w.heap.size w w' := by
  by_cases hm : v ≤ MM
  · exact back_fine w v hv ht hm
  · exact back_over w v hv ht hm
end Go.Proofs.YtfdbnkmjnmcnlaaDoor
