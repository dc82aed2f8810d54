/-
  Contracts of Encode: package hexes', and the document's.
-/
import Derived.Test.YtdoopjejihfpaaaH1
namespace Go.Proofs.Ytdoopjejihfpaaa
open Go.RowKit

theorem hi_lo (n : Nat) (_h : n < 256) : ((n : Int) / 16 = ((n / 16 : Nat) : Int)) ∧ ((n : Int) % 16 = ((n % 16 : Nat) : Int)) := ⟨by omega, by omega⟩
theorem and15 (n : Nat) (h : n < 256) : bits .and .u8 (n : Int) 15 = ((n % 16 : Nat) : Int) := by
  have : ∀ k : Fin 256, bits .and .u8 (k.val : Int) 15 = ((k.val % 16 : Nat) : Int) := by decide +kernel
  exact this ⟨n, h⟩

theorem Rd.two (E : TypeId) (w : World) (c d : UInt8) : Rd (w.heap.size + 1) (w.alloc (.cells #[.int .u8 (c.toNat : Int), .int .u8 (d.toNat : Int)] E)) (.slice (some ⟨w.heap.size, 0, none⟩) 2 2) [c, d] :=
  Rd.lit E w [c, d] _ rfl 2 rfl

set_option maxHeartbeats 1000000 in
theorem encode_any (w : World) (B : Nat) (v : Value) (l : List UInt8) (h : Rd B w v l) (hl : l.length ≤ 1000000) :
    Calls Try.prog 9 #[v] w fun e w' => e = .returned (.string ⟨(enc l).toArray⟩) ∧ Below w.heap.size w w' := by
  have hrd : Hid (Rd B w v l) := h
  obtain ⟨ao, cap, rfl⟩ := h.len
  clear h
  go_enter Try.func9, Try.ntmps9
  go_wp2_with (at_make; refine wpList_make_rd Try.bt rfl _ _ rfl w.heap.size _ _ _ rfl rfl (by omega) (by omega) (Nat.le_refl _) ?_; intro v1 w1 ho1 hb1)
  go_loopw [3, 12] (fun b i wr => ∃ k : Nat, k ≤ l.length ∧ i = .int .i64 k ∧ Own 5 w.heap.size wr b (enc (l.take k)) ∧ Below w.heap.size w wr) (fun _ i _ => l.length - (intOf i).toNat)
  case atStart => exact ⟨0, by omega, rfl, by simpa [enc] using ho1, hb1⟩
  case round =>
    obtain ⟨k, hk, rfl, ho, hb⟩ := hrel
    by_cases hlt : k < l.length
    · obtain ⟨b0, off, cap', ev, hcap, hbB, hc⟩ := ((hrd.out.self).below hb).at (by omega)
      simp only [Value.slice.injEq] at ev
      obtain ⟨rfl, _, rfl⟩ := ev
      have hck := hc k hlt
      have hn := l[k].toNat_lt
      have HE : Hid (enc (l.take (k + 1)) = enc (l.take k) ++ [hd (l[k].toNat / 16), hd (l[k].toNat % 16)]) := enc_take l k hlt
      generalize l[k].toNat = n at hck hn HE
      have h16 := hi_lo n hn
      have hand := and15 n hn
      have hix := fun w => run_dig w (n / 16) .u8 (by omega) _ h16.1
      have hiy := fun w => run_dig w (n % 16) .u8 (by omega) _ h16.2
      clear hc h16
      go_wp2_with fail
      go_region_law (refine step_append_rd Try.bt rfl (.tmp 16) (.tmp 23) rfl w.heap.size _ _ _ _ [hd (n / 16), hd (n % 16)] rfl ((ho.alloc _).keep (Below.drewN' _ _ 1)) rfl ((Rd.two 5 wr _ _).drewN 1) (by simp [enc_length]; omega) (by have := hb.size; simp; omega) ?_; intro v2 w2 ho2 hb2)
      all_goals
        go_wp2
        go_roundw
        case rel => exact ⟨k + 1, by omega, by go_num, by rw [HE.out]; exact ho2, hb.trans ((((Below.refl _ _).alloc (by have := hb.size; omega) _).trans (Below.drewN' _ _ 1)).trans hb2)⟩
        case measure => simp [intOf]; omega
    · obtain rfl : k = l.length := by omega
      rw [List.take_length] at ho
      have hcv := run_conv_rd Try.bt 9 (by kernel_rfl) wr _ _ _ ho.rd
      go_wp2
      go_ret
      exact ⟨rfl, hb⟩
end Go.Proofs.Ytdoopjejihfpaaa
