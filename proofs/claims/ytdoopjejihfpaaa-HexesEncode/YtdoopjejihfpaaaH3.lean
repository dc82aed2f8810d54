/-
  Contract of the document's Encode.
-/
import Derived.Test.YtdoopjejihfpaaaH2
namespace Go.Proofs.Ytdoopjejihfpaaa
open Go.RowKit

theorem ba_append (a b : List UInt8) : (⟨a.toArray⟩ : ByteArray) ++ (⟨b.toArray⟩ : ByteArray) = ⟨(a ++ b).toArray⟩ := by
  apply ByteArray.ext
  simp

theorem digs_extract (k : Nat) (h : k < 16) : digs.extract k (k + 1) = ⟨#[hd k]⟩ := by
  have : ∀ k : Fin 16, digs.extract k.val (k.val + 1) = ⟨#[hd k.val]⟩ := by decide +kernel
  exact this ⟨k, h⟩
theorem run_digs (w : World) (k : Nat) (h : k < 16) (i j : Int) (hi : i = (k : Int)) (hj : j = (k : Int) + 1) : (Instr.sliceAt 9 (.string ⟨#[48, 49, 50, 51, 52, 53, 54, 55, 56, 57, 97, 98, 99, 100, 101, 102]⟩) (some (.int .i64 i)) (some (.int .i64 j)) none).run Try.prog w = .ok (.string ⟨#[hd k]⟩) w := by
  subst hi hj
  have hu : Try.prog.underlying 9 = some .string := by kernel_rfl
  have hs : digs.size = 16 := rfl
  have e := digs_extract k h
  unfold digs at e hs
  have b1 : (Instr.sliceBound (.int .i64 ((k : Int) + 1)) 16 .sliceAlen).run Try.prog w = .ok (k + 1) w := by
    simp [Instr.sliceBound, asIntOf]
    omega
  have b2 : (Instr.sliceBound (.int .i64 (k : Int)) (k + 1) .sliceB).run Try.prog w = .ok k w := by
    simp [Instr.sliceBound, asIntOf]
    omega
  simp [Instr.sliceAt, Instr.slice, run_underlying hu, Instr.sliceBounds, hs, b1, b2, e]

set_option maxHeartbeats 1000000 in
theorem refEncode_any (w : World) (B : Nat) (v : Value) (l : List UInt8) (h : Rd B w v l) (hl : l.length ≤ 1000000) :
    Calls Try.prog 10 #[v] w fun e w' => e = .returned (.string ⟨(enc l).toArray⟩) ∧ Below w.heap.size w w' := by
  have hrd : Hid (Rd B w v l) := h
  obtain ⟨ao, cap, rfl⟩ := h.len
  clear h
  go_enter Try.func10, Try.ntmps10
  go_wp2
  go_loopw [3, 4] (fun s i wr => ∃ k : Nat, k ≤ l.length ∧ i = .int .i64 k ∧ s = .string ⟨(enc (l.take k)).toArray⟩ ∧ Below w.heap.size w wr) (fun _ i _ => l.length - (intOf i).toNat)
  case atStart => exact ⟨0, by omega, rfl, rfl, Below.refl _ _⟩
  case round =>
    obtain ⟨k, hk, rfl, rfl, hb⟩ := hrel
    by_cases hlt : k < l.length
    · obtain ⟨b0, off, cap', ev, hcap, hbB, hc⟩ := ((hrd.out.self).below hb).at (by omega)
      simp only [Value.slice.injEq] at ev
      obtain ⟨rfl, _, rfl⟩ := ev
      have hck := hc k hlt
      have hn := l[k].toNat_lt
      have HE : Hid (enc (l.take (k + 1)) = enc (l.take k) ++ [hd (l[k].toNat / 16), hd (l[k].toNat % 16)]) := enc_take l k hlt
      have hel : (enc (l.take k)).length ≤ 2000000 := by rw [enc_length]; simp; omega
      generalize l[k].toNat = n at hck hn HE
      have h16 := hi_lo n hn
      have hix := fun w => run_digs w (n / 16) (by omega) ((n : Int) / 16) ((n : Int) / 16 + 1) h16.1 (by omega)
      have hiy := fun w => run_digs w (n % 16) (by omega) ((n : Int) % 16) ((n : Int) % 16 + 1) h16.2 (by omega)
      clear hc h16
      go_wp2_with fail
      go_quiet (fail)
      go_wp2_with fail
      go_quiet (fail)
      go_wp2
      go_roundw
      case rel => exact ⟨k + 1, by omega, by go_num, by rw [HE.out, show [hd (n / 16), hd (n % 16)] = [hd (n / 16)] ++ [hd (n % 16)] from rfl, ← List.append_assoc, ← ba_append, ← ba_append], hb.trans (Below.drewN' _ _ _)⟩
      case measure => simp [intOf]; omega
    · obtain rfl : k = l.length := by omega
      rw [List.take_length]
      go_wp2
      go_ret
      exact ⟨rfl, hb⟩
end Go.Proofs.Ytdoopjejihfpaaa
