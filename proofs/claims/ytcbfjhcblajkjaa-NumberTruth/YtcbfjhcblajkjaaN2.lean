/-
  Contracts of the document's Encode.
-/
import Derived.Test.YtcbfjhcblajkjaaN1
namespace Go.Proofs.Ytcbfjhcblajkjaa
open Go.RowKit

theorem lt8' (a : Nat) (h : a < 256 ^ 8) : a < 18446744073709551616 := h

set_option maxRecDepth 100000 in
set_option maxHeartbeats 2000000 in
theorem rencode_any (w : World) (n : Int) (h1 : -9223372036854775808 ≤ n) (h2 : n ≤ 9223372036854775807) :
    Calls Try.prog 10 #[.int .i64 n] w fun e w' => ∃ v', e = .returned v' ∧ Own 5 w.heap.size w' v' (encN n) ∧ Below w.heap.size w w' := by
  have H8 : Hid (n.natAbs < 256 ^ 8) := lt8 n h1 h2
  have HL : Hid (-9223372036854775808 ≤ n ∧ n ≤ 9223372036854775807) := ⟨h1, h2⟩
  clear h1 h2
  go_enter Try.func10, Try.ntmps10
  go_wp2
  go_loopw [3, 4, 5] (fun b v _ wr => ∃ (f : Nat) (z : Int) (p : List UInt8), v = .int .i64 z ∧ Own 5 w.heap.size wr b p ∧ Below w.heap.size w wr ∧ Hid (p ++ digs f z.natAbs = digs 8 n.natAbs ∧ z.natAbs < 256 ^ f ∧ -9223372036854775808 ≤ z ∧ z ≤ 9223372036854775807)) (fun _ v _ _ => (intOf v).natAbs)
  case atStart => exact ⟨8, n, [], rfl, Own.empty _ _ _ (Nat.le_refl _), (Below.refl _ _).alloc (Nat.le_refl _) _, ⟨rfl, H8.out, HL.out⟩⟩
  case round =>
    obtain ⟨f, z, p, rfl, ho, hb, HD⟩ := hrel
    by_cases hx : z = 0
    · subst hx
      have hp : p = digs 8 n.natAbs := by have := HD.out.1; rwa [Int.natAbs_zero, digs_zero, List.append_nil] at this
      clear HD
      by_cases h0 : n = 0
      · subst h0
        have hp0 : p = [] := hp
        subst hp0
        clear hp
        obtain ⟨ao, cap, rfl⟩ := ho.rd.len
        have Ho : Hid (Own 5 w.heap.size wr (.slice ao 0 cap) []) := ho
        clear ho
        simp only [List.length_nil]
        go_wp2
        go_ret
        exact ⟨_, rfl, Ho.out, hb⟩
      · obtain ⟨r, c, hd, hc⟩ := digs_last 8 n.natAbs H8.out (by omega)
        rw [hd] at hp
        subst hp
        have hrl : r.length ≤ 8 := by
          have := digs_length 8 n.natAbs
          rw [hd] at this
          simp at this
          omega
        have hne : decide ((r.length : Int) + 1 > 0) = true := by simp
        obtain ⟨g, cap, rfl⟩ := ho.shape (by simp)
        obtain ⟨hwc, hwf⟩ := Own.was ho rfl r.length (by simp)
        simp only [List.getElem_concat_length, List.length_append, List.length_cons, List.length_nil, Nat.zero_add] at hwc ho ⊢
        have Ho : Hid (Own 5 w.heap.size wr (.slice (some ⟨g, 0, none⟩) (r.length + 1) cap) (r ++ [c])) := ho
        have Hb : Hid (Below w.heap.size w wr) := hb
        clear ho hb hc H8 HL
        by_cases hb : 128 ≤ c.toNat
        · have hand : decide ((c.toNat : Int) ≥ 128) = true := by simp; omega
          by_cases hn : n < 0
          · have HE : Hid (encN n = r ++ [c] ++ [128]) := encN_neg_big n r c hn hd hb
            have d : decide (n < 0) = true := by simp [hn]
            clear hn h0 hd hb hwf
            generalize c.toNat = cc at hwc hand
            go_wp2_with (at_builtin; refine wpList_append_rd Try.bt rfl (.tmp 35) (.tmp 36) rfl w.heap.size _ _ _ _ [0] rfl (Ho.out.alloc _) rfl (Rd.one 5 _ 0 _ b0) (by simp; omega) (by have := Hb.out.size; simp; omega) ?_; intro v2 w2 ho2 hb2; obtain ⟨g2, cap2, rfl⟩ := ho2.shape (by simp); obtain ⟨hwc2, hwf2⟩ := Own.was ho2 rfl (r.length + 1) (by simp); have Hs := Own.store ho2 (r.length + 1) 128 128 b128)
            have e1 : (r ++ [c] ++ [0]).length = r.length + 2 := by simp
            have e2 : (r ++ [c] ++ [0]).set (r.length + 1) 128 = r ++ [c] ++ [128] := by simp
            rw [e1, e2] at Hs
            go_ret
            rw [HE.out]
            exact ⟨_, rfl, Hs.1, (Hb.out.trans (((Below.refl _ _).alloc (by have := Hb.out.size; omega) _).trans hb2)).trans Hs.2⟩
          · have HE : Hid (encN n = r ++ [c] ++ [0]) := encN_pos_big n r c (by omega) hd hb
            have d : decide (n < 0) = false := by simp; omega
            clear hn h0 hd hb hwf
            generalize c.toNat = cc at hwc hand
            go_wp2_with (at_builtin; refine wpList_append_rd Try.bt rfl (.tmp 35) (.tmp 36) rfl w.heap.size _ _ _ _ [0] rfl (Ho.out.alloc _) rfl (Rd.one 5 _ 0 _ b0) (by simp; omega) (by have := Hb.out.size; simp; omega) ?_; intro v2 w2 ho2 hb2)
            go_ret
            rw [HE.out]
            exact ⟨_, rfl, ho2, Hb.out.trans (((Below.refl _ _).alloc (by have := Hb.out.size; omega) _).trans hb2)⟩
        · have hand : decide ((c.toNat : Int) ≥ 128) = false := by simp; omega
          by_cases hn : n < 0
          · have HE : Hid (encN n = r ++ [UInt8.ofNat (c.toNat + 128)]) := encN_neg_low n r c hn hd (by omega)
            have d : decide (n < 0) = true := by simp [hn]
            have hcb : c.toNat < 128 := by omega
            have HS : Hid (Own 5 w.heap.size (wr.setCell ⟨g, r.length, none⟩ (.int .u8 ((c.toNat : Int) + 128))) (.slice (some ⟨g, 0, none⟩) (r.length + 1) cap) (r ++ [UInt8.ofNat (c.toNat + 128)]) ∧ Below w.heap.size wr (wr.setCell ⟨g, r.length, none⟩ (.int .u8 ((c.toNat : Int) + 128)))) := by
              have := Own.store Ho.out r.length (UInt8.ofNat (c.toNat + 128)) ((c.toNat : Int) + 128) (by simp only [UInt8.toNat_ofNat']; omega)
              rw [set_last] at this
              exact this
            clear hn h0 hd hb
            generalize UInt8.ofNat (c.toNat + 128) = cd at HE HS
            generalize c.toNat = cc at hwc hand HS hcb
            go_wp2
            go_ret
            rw [HE.out]
            exact ⟨_, rfl, HS.out.1, Hb.out.trans HS.out.2⟩
          · have HE : Hid (encN n = r ++ [c]) := encN_pos_low n r c (by omega) hd (by omega)
            have d : decide (n < 0) = false := by simp; omega
            clear hn h0 hd hb hwf
            generalize c.toNat = cc at hwc hand
            go_wp2
            go_ret
            rw [HE.out]
            exact ⟨_, rfl, Ho.out, Hb.out⟩
    · obtain ⟨f, rfl⟩ : ∃ g, f = g + 1 := by
        cases f with
        | zero => have := HD.out.2.1; simp at this; exact absurd this hx
        | succ g => exact ⟨g, rfl⟩
      have hdx : (z == 0) = false := by simp [hx]
      have HQ : Hid ((z.tdiv 256).natAbs = z.natAbs / 256) := by show _ = _; rw [Int.natAbs_tdiv]; rfl
      have HR : Hid ((z.tmod 256).natAbs = z.natAbs % 256) := by show _ = _; rw [Int.natAbs_tmod]; rfl
      have hzb := HD.out.2.2
      have HZ : Hid (z ≠ 0) := hx
      have HN : Hid ((p ++ [UInt8.ofNat z.natAbs]) ++ digs f (z.tdiv 256).natAbs = digs 8 n.natAbs ∧ (z.tdiv 256).natAbs < 256 ^ f ∧ -9223372036854775808 ≤ z.tdiv 256 ∧ z.tdiv 256 ≤ 9223372036854775807) := by
        have hq := HQ.out
        refine ⟨?_, ?_, ?_, ?_⟩
        · rw [HQ.out, ← HD.out.1, digs_step f _ (by omega)]; simp
        · rw [HQ.out]; exact div_lt f _ HD.out.2.1
        · omega
        · omega
      have HW : Hid (wrap64 (z.tdiv 256) = z.tdiv 256) := by
        have hq := HQ.out
        show _ = _
        unfold wrap64; omega
      have hpl : Hid (p.length ≤ 8) := by
        have := digs_length 8 n.natAbs
        rw [← HD.out.1] at this
        simp at this
        show _ ≤ _
        omega
      by_cases ht : z.tmod 256 < 0
      · have dt : decide (z.tmod 256 < 0) = true := by simp [ht]
        have HB : Hid (wrap64 (-z.tmod 256) % 256 = ((UInt8.ofNat z.natAbs).toNat : Int)) := by
          have hr := HR.out
          show _ = _
          unfold wrap64
          simp only [UInt8.toNat_ofNat']; omega
        clear HD hx H8 HL hzb ht HR
        go_wp2_with (at_builtin; refine wpList_append_rd Try.bt rfl (.tmp 18) (.tmp 21) rfl w.heap.size _ _ _ _ [UInt8.ofNat z.natAbs] rfl (ho.alloc _) rfl (Rd.one 5 _ _ _ HB.out) (by have := hpl.out; simp; omega) (by have := hb.size; simp; omega) ?_; intro v2 w2 ho2 hb2)
        go_roundw
        case rel => exact ⟨f, z.tdiv 256, _, by first | rfl | rw [HW.out], ho2, hb.trans (((Below.refl _ _).alloc (by have := hb.size; omega) _).trans hb2), HN.out⟩
        case measure => have := HZ.out; have := HQ.out; have := HW.out; simp [intOf]; omega
      · have dt : decide (z.tmod 256 < 0) = false := by simp; omega
        have HB : Hid (z.tmod 256 % 256 = ((UInt8.ofNat z.natAbs).toNat : Int)) := by
          have hr := HR.out
          show _ = _
          simp only [UInt8.toNat_ofNat']; omega
        clear HD hx H8 HL hzb ht HR
        go_wp2_with (at_builtin; refine wpList_append_rd Try.bt rfl (.tmp 18) (.tmp 21) rfl w.heap.size _ _ _ _ [UInt8.ofNat z.natAbs] rfl (ho.alloc _) rfl (Rd.one 5 _ _ _ HB.out) (by have := hpl.out; simp; omega) (by have := hb.size; simp; omega) ?_; intro v2 w2 ho2 hb2)
        go_roundw
        case rel => exact ⟨f, z.tdiv 256, _, by first | rfl | rw [HW.out], ho2, hb.trans (((Below.refl _ _).alloc (by have := hb.size; omega) _).trans hb2), HN.out⟩
        case measure => have := HZ.out; have := HQ.out; have := HW.out; simp [intOf]; omega
end Go.Proofs.Ytcbfjhcblajkjaa
