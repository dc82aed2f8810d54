/-
  Contracts of package number: amount, Encode.
-/
import Derived.Test.YtcbfjhcblajkjaaRows
import Derived.Test.YtcbfjhcblajkjaaBytes
import Derived.Test.YtcbfjhcblajkjaaMild
import Derived.Test.YtcbfjhcblajkjaaFill
import Derived.Test.YtcbfjhcblajkjaaNmb
import Derived.WalkLawsBesides
namespace Go.Proofs.Ytcbfjhcblajkjaa
open Go.RowKit

theorem Try.bt : BT Try.prog 23 5 := ⟨by kernel_rfl, by kernel_rfl, by kernel_rfl⟩

/-- What one has made, and is not empty, lies at the beginning of a block. -/
theorem Own.shape {E : TypeId} {base : Nat} {w : World} {v : Value} {l : List UInt8} (h : Own E base w v l) (hl : l ≠ []) : ∃ g cap, v = .slice (some ⟨g, 0, none⟩) l.length cap := by
  rcases h.2 with ⟨_, hn⟩ | ⟨g, cap, cur, hv, _⟩
  · exact absurd (List.eq_nil_of_length_eq_zero hn) hl
  · exact ⟨g, cap, hv⟩

theorem and_big (c : UInt8) (h : 128 ≤ c.toNat) : bits .and .u8 (c.toNat : Int) 128 = 128 := by
  have hc := c.toNat_lt
  have := u8_and_nat c.toNat 128 hc (by decide)
  rw [show ((128 : Nat) : Int) = 128 from rfl] at this
  rw [this]
  have : ∀ d : Fin 256, 128 ≤ d.val → d.val &&& 128 = 128 := by decide +kernel
  rw [this ⟨c.toNat, hc⟩ h]; rfl
theorem and_low (c : UInt8) (h : c.toNat < 128) : bits .and .u8 (c.toNat : Int) 128 = 0 := by
  have := u8_and_nat c.toNat 128 (by omega) (by decide)
  rw [show ((128 : Nat) : Int) = 128 from rfl] at this
  rw [this]
  have : ∀ d : Fin 128, d.val &&& 128 = 0 := by decide +kernel
  rw [this ⟨c.toNat, h⟩]; rfl
theorem or_low (c : UInt8) (h : c.toNat < 128) : bits .or .u8 (c.toNat : Int) 128 = ((UInt8.ofNat (c.toNat + 128)).toNat : Int) := by
  have := u8_or_nat c.toNat 128 (by omega) (by decide)
  rw [show ((128 : Nat) : Int) = 128 from rfl] at this
  rw [this]
  have : ∀ d : Fin 128, d.val ||| 128 = d.val + 128 := by decide +kernel
  rw [this ⟨c.toNat, h⟩]
  simp only [UInt8.toNat_ofNat']; omega
theorem b0 : (0 : Int) = ((0 : UInt8).toNat : Int) := by decide
theorem b1 : (1 : Int) = ((1 : UInt8).toNat : Int) := by decide
theorem b128 : (128 : Int) = ((128 : UInt8).toNat : Int) := by decide
theorem set_last (r : List UInt8) (c d : UInt8) : (r ++ [c]).set r.length d = r ++ [d] := by simp

set_option maxRecDepth 100000 in
set_option maxHeartbeats 400000 in
theorem amount_any (w : World) (n : Int) (h1 : -9223372036854775808 ≤ n) (h2 : n ≤ 9223372036854775807) :
    Calls Try.prog 17 #[.int .i64 n] w fun e w' => e = .returned (.int .u64 (n.natAbs : Int)) ∧ w' = w := by
  by_cases hn : n < 0
  · have HW : Hid ((n.natAbs : Int) = IntKind.u64.wrap (-IntKind.u64.wrap n)) := by show _ = _; simp only [IntKind.wrap_u64]; omega
    have d : decide (n < 0) = true := by simp [hn]
    rw [HW.out]
    clear h1 h2 hn HW
    go_enter Try.func17, Try.ntmps17
    go_wp2
    go_ret
    exact ⟨rfl, rfl⟩
  · have HW : Hid ((n.natAbs : Int) = IntKind.u64.wrap n) := by show _ = _; simp only [IntKind.wrap_u64]; omega
    have d : decide (n < 0) = false := by simp; omega
    rw [HW.out]
    clear h1 h2 hn HW
    go_enter Try.func17, Try.ntmps17
    go_wp2
    go_ret
    exact ⟨rfl, rfl⟩

set_option maxRecDepth 100000 in
set_option maxHeartbeats 2000000 in
theorem encode_any (w : World) (n : Int) (h1 : -9223372036854775808 ≤ n) (h2 : n ≤ 9223372036854775807) :
    Calls Try.prog 9 #[.int .i64 n] w fun e w' => ∃ v', e = .returned v' ∧ Own 5 w.heap.size w' v' (encN n) ∧ Below w.heap.size w w' := by
  have HA : Hid (∀ w, Calls Try.prog 17 #[.int .i64 n] w fun e w' => e = .returned (.int .u64 (n.natAbs : Int)) ∧ w' = w) := fun w => amount_any w n h1 h2
  have H8 : Hid (n.natAbs < 256 ^ 8) := lt8 n h1 h2
  clear h1 h2
  go_enter Try.func9, Try.ntmps9
  go_wp2_with (go_at_call 17; refine (HA.out _).mono ?_; rintro e w' ⟨rfl, rfl⟩)
  go_loopw [3, 4] (fun b v wr => ∃ (f x : Nat) (p : List UInt8), v = .int .u64 (x : Int) ∧ Own 5 w'.heap.size wr b p ∧ Below w'.heap.size w' wr ∧ Hid (p ++ digs f x = digs 8 n.natAbs ∧ x < 256 ^ f)) (fun _ v _ => (intOf v).toNat)
  case atStart => exact ⟨8, n.natAbs, [], rfl, Own.nil _ _ _, Below.refl _ _, ⟨rfl, H8.out⟩⟩
  case round =>
    obtain ⟨f, x, p, rfl, ho, hb, HD⟩ := hrel
    by_cases hx : x = 0
    · subst hx
      have hp : p = digs 8 n.natAbs := by have := HD.out.1; rwa [digs_zero, List.append_nil] at this
      clear HD
      by_cases h0 : n = 0
      · subst h0
        have hp0 : p = [] := hp
        subst hp0
        clear hp
        obtain ⟨ao, cap, rfl⟩ := ho.rd.len
        clear ho
        go_wp2
        go_ret
        exact ⟨_, rfl, Own.nil _ _ _, hb⟩
      · obtain ⟨r, c, hd, hc⟩ := digs_last 8 n.natAbs H8.out (by omega)
        rw [hd] at hp
        subst hp
        have hrl : r.length ≤ 8 := by
          have := digs_length 8 n.natAbs
          rw [hd] at this
          simp at this
          omega
        have hne : ((r.length : Int) + 1 == 0) = false := by simp; omega
        obtain ⟨g, cap, rfl⟩ := ho.shape (by simp)
        obtain ⟨hwc, hwf⟩ := Own.was ho rfl r.length (by simp)
        simp only [List.getElem_concat_length, List.length_append, List.length_cons, List.length_nil, Nat.zero_add] at hwc ho ⊢
        have Ho : Hid (Own 5 w'.heap.size wr (.slice (some ⟨g, 0, none⟩) (r.length + 1) cap) (r ++ [c])) := ho
        have Hb : Hid (Below w'.heap.size w' wr) := hb
        clear ho hb hc H8 HA
        by_cases hb : 128 ≤ c.toNat
        · have hand := and_big c hb
          by_cases hn : n < 0
          · have HE : Hid (encN n = r ++ [c] ++ [128]) := encN_neg_big n r c hn hd hb
            have d : decide (n < 0) = true := by simp [hn]
            clear hn h0 hd hb hwf
            generalize c.toNat = cc at hwc hand
            have hor : bits .or .u8 0 128 = 128 := by decide
            go_wp2_with (at_builtin; refine wpList_append_rd Try.bt rfl (.tmp 27) (.tmp 28) rfl w'.heap.size _ _ _ _ [0] rfl (Ho.out.alloc _) rfl (Rd.one 5 _ 0 _ b0) (by simp; omega) (by have := Hb.out.size; simp; omega) ?_; intro v2 w2 ho2 hb2; obtain ⟨g2, cap2, rfl⟩ := ho2.shape (by simp); obtain ⟨hwc2, hwf2⟩ := Own.was ho2 rfl (r.length + 1) (by simp); have Hs := Own.store ho2 (r.length + 1) 128 128 b128)
            have e1 : (r ++ [c] ++ [0]).length = r.length + 2 := by simp
            have e2 : (r ++ [c] ++ [0]).set (r.length + 1) 128 = r ++ [c] ++ [128] := by simp
            rw [e1, e2] at Hs
            go_ret
            rw [HE.out]
            exact ⟨_, rfl, Hs.1, (Hb.out.trans (((Below.refl _ _).alloc (by have := Hb.out.size; omega) _).trans hb2)).trans Hs.2⟩
          · have HE : Hid (encN n = r ++ [c] ++ [0]) := encN_pos_big n r c (by omega) hd hb
            have d : decide (n < 0) = false := by simp; omega
            clear hn h0 hd hb hwf
            generalize c.toNat = cc at hwc hand
            go_wp2_with (at_builtin; refine wpList_append_rd Try.bt rfl (.tmp 27) (.tmp 28) rfl w'.heap.size _ _ _ _ [0] rfl (Ho.out.alloc _) rfl (Rd.one 5 _ 0 _ b0) (by simp; omega) (by have := Hb.out.size; simp; omega) ?_; intro v2 w2 ho2 hb2)
            go_ret
            rw [HE.out]
            exact ⟨_, rfl, ho2, Hb.out.trans (((Below.refl _ _).alloc (by have := Hb.out.size; omega) _).trans hb2)⟩
        · have hand := and_low c (by omega)
          by_cases hn : n < 0
          · have HE : Hid (encN n = r ++ [UInt8.ofNat (c.toNat + 128)]) := encN_neg_low n r c hn hd (by omega)
            have d : decide (n < 0) = true := by simp [hn]
            have hor := or_low c (by omega)
            have Hs := Own.store Ho.out r.length (UInt8.ofNat (c.toNat + 128)) _ rfl
            rw [set_last] at Hs
            have HS : Hid _ := Hs
            clear hn h0 hd hb Hs
            generalize UInt8.ofNat (c.toNat + 128) = cd at HE HS hor
            generalize c.toNat = cc at hwc hand hor
            generalize cd.toNat = dd at hor HS
            go_wp2
            go_ret
            rw [HE.out]
            exact ⟨_, rfl, HS.out.1, Hb.out.trans HS.out.2⟩
          · have HE : Hid (encN n = r ++ [c]) := encN_pos_low n r c (by omega) hd (by omega)
            have d : decide (n < 0) = false := by simp; omega
            clear hn h0 hd hb hwf
            generalize c.toNat = cc at hwc hand
            go_wp2
            go_ret
            rw [HE.out]
            exact ⟨_, rfl, Ho.out, Hb.out⟩
    · obtain ⟨f, rfl⟩ : ∃ g, f = g + 1 := by
        cases f with
        | zero => have := HD.out.2; simp at this; exact absurd this hx
        | succ g => exact ⟨g, rfl⟩
      have HN : Hid ((p ++ [UInt8.ofNat x]) ++ digs f (x / 256) = digs 8 n.natAbs ∧ x / 256 < 256 ^ f) := by
        refine ⟨?_, div_lt f x HD.out.2⟩
        rw [← HD.out.1, digs_step f x hx]; simp
      have hpl : Hid (p.length ≤ 8) := by
        have := digs_length 8 n.natAbs
        rw [← HD.out.1] at this
        simp at this
        show _ ≤ _
        omega
      have HB : Hid ((x : Int) % 256 = ((UInt8.ofNat x).toNat : Int)) := byte1 x
      have hdx : ((x : Int) == 0) = false := by simp; omega
      have HX : Hid (x ≠ 0) := hx
      clear HD hx H8 HA
      go_wp2_with (at_builtin; refine wpList_append_rd Try.bt rfl (.tmp 11) (.tmp 14) rfl w'.heap.size _ _ _ _ [UInt8.ofNat x] rfl (ho.alloc _) rfl (Rd.one 5 _ _ _ HB.out) (by have := hpl.out; simp; omega) (by have := hb.size; simp; omega) ?_; intro v2 w2 ho2 hb2)
      go_roundw
      case rel => exact ⟨f, x / 256, _, by go_num, ho2, hb.trans (((Below.refl _ _).alloc (by have := hb.size; omega) _).trans hb2), HN.out⟩
      case measure => have := HX.out; simp [intOf]; omega
end Go.Proofs.Ytcbfjhcblajkjaa
