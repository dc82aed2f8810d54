/-
  Contracts of the document's answer: bit, packed.
-/
import Derived.Test.YtemgaoikngebeaaDoorB11
namespace Go.Proofs.YtemgaoikngebeaaDoor
open Go.RowKit

theorem bitN_at (l : List UInt8) (e i a r : Nat) (ha : i / e = a) (hr : i % e = r) (hl : a < l.length) : bitN l e i = l[a].toNat / 2 ^ (e - 1 - r) % 2 := by
  subst ha hr
  unfold bitN
  rw [dif_pos hl]
theorem bitN_past (l : List UInt8) (e i : Nat) (h : ¬ i / e < l.length) : bitN l e i = 0 := by unfold bitN; rw [dif_neg h]

set_option maxHeartbeats 2000000 in
theorem bit8 (w : World) (B : Nat) (v : Value) (l : List UInt8) (h : Rd B w v l) (i : Nat) (hi : i ≤ 100000000) (hl : l.length ≤ 1000000) :
    Calls Tryd.prog 43 #[v, .int .i64 8, .int .i64 (i : Int)] w fun x w' => x = .returned (.int .u8 (bitN l 8 i : Nat)) ∧ Below w.heap.size w w' := by
  by_cases ha : i / 8 < l.length
  · obtain ⟨b0, off, cap, rfl, hcap, _, hcl⟩ := h.at (by omega)
    have hck := hcl (i / 8) ha
    have hai : (i : Int) / 8 = ((i / 8 : Nat) : Int) := by omega
    clear h
    go_enter Tryd.func43, Tryd.ntmps43
    rcases (show i % 8 = 0 ∨ i % 8 = 1 ∨ i % 8 = 2 ∨ i % 8 = 3 ∨ i % 8 = 4 ∨ i % 8 = 5 ∨ i % 8 = 6 ∨ i % 8 = 7 by omega) with hr | hr | hr | hr | hr | hr | hr | hr
    · have HB : Hid (bitN l 8 i = l[i / 8].toNat / 2 ^ 7 % 2) := bitN_at l 8 i (i / 8) 0 rfl hr ha
      have hri : (i : Int) % 8 = 0 := by omega
      generalize l[i / 8].toNat = c at hck HB
      generalize i / 8 = a at hck hai ha
      clear hcl hr
      go_wp2_with fail
      go_quiet (fail)
      go_wp2
      go_ret
      refine ⟨?_, Below.drewN' _ _ _⟩
      rw [HB.out]
      simp
    · have HB : Hid (bitN l 8 i = l[i / 8].toNat / 2 ^ 6 % 2) := bitN_at l 8 i (i / 8) 1 rfl hr ha
      have hri : (i : Int) % 8 = 1 := by omega
      generalize l[i / 8].toNat = c at hck HB
      generalize i / 8 = a at hck hai ha
      clear hcl hr
      go_wp2_with fail
      go_quiet (fail)
      go_wp2
      go_ret
      refine ⟨?_, Below.drewN' _ _ _⟩
      rw [HB.out]
      simp
    · have HB : Hid (bitN l 8 i = l[i / 8].toNat / 2 ^ 5 % 2) := bitN_at l 8 i (i / 8) 2 rfl hr ha
      have hri : (i : Int) % 8 = 2 := by omega
      generalize l[i / 8].toNat = c at hck HB
      generalize i / 8 = a at hck hai ha
      clear hcl hr
      go_wp2_with fail
      go_quiet (fail)
      go_wp2
      go_ret
      refine ⟨?_, Below.drewN' _ _ _⟩
      rw [HB.out]
      simp
    · have HB : Hid (bitN l 8 i = l[i / 8].toNat / 2 ^ 4 % 2) := bitN_at l 8 i (i / 8) 3 rfl hr ha
      have hri : (i : Int) % 8 = 3 := by omega
      generalize l[i / 8].toNat = c at hck HB
      generalize i / 8 = a at hck hai ha
      clear hcl hr
      go_wp2_with fail
      go_quiet (fail)
      go_wp2
      go_ret
      refine ⟨?_, Below.drewN' _ _ _⟩
      rw [HB.out]
      simp
    · have HB : Hid (bitN l 8 i = l[i / 8].toNat / 2 ^ 3 % 2) := bitN_at l 8 i (i / 8) 4 rfl hr ha
      have hri : (i : Int) % 8 = 4 := by omega
      generalize l[i / 8].toNat = c at hck HB
      generalize i / 8 = a at hck hai ha
      clear hcl hr
      go_wp2_with fail
      go_quiet (fail)
      go_wp2
      go_ret
      refine ⟨?_, Below.drewN' _ _ _⟩
      rw [HB.out]
      simp
    · have HB : Hid (bitN l 8 i = l[i / 8].toNat / 2 ^ 2 % 2) := bitN_at l 8 i (i / 8) 5 rfl hr ha
      have hri : (i : Int) % 8 = 5 := by omega
      generalize l[i / 8].toNat = c at hck HB
      generalize i / 8 = a at hck hai ha
      clear hcl hr
      go_wp2_with fail
      go_quiet (fail)
      go_wp2
      go_ret
      refine ⟨?_, Below.drewN' _ _ _⟩
      rw [HB.out]
      simp
    · have HB : Hid (bitN l 8 i = l[i / 8].toNat / 2 ^ 1 % 2) := bitN_at l 8 i (i / 8) 6 rfl hr ha
      have hri : (i : Int) % 8 = 6 := by omega
      generalize l[i / 8].toNat = c at hck HB
      generalize i / 8 = a at hck hai ha
      clear hcl hr
      go_wp2_with fail
      go_quiet (fail)
      go_wp2
      go_ret
      refine ⟨?_, Below.drewN' _ _ _⟩
      rw [HB.out]
      simp
    · have HB : Hid (bitN l 8 i = l[i / 8].toNat / 2 ^ 0 % 2) := bitN_at l 8 i (i / 8) 7 rfl hr ha
      have hri : (i : Int) % 8 = 7 := by omega
      generalize l[i / 8].toNat = c at hck HB
      generalize i / 8 = a at hck hai ha
      clear hcl hr
      go_wp2_with fail
      go_quiet (fail)
      go_wp2
      go_ret
      refine ⟨?_, Below.drewN' _ _ _⟩
      rw [HB.out]
      simp
  · have HB : Hid (bitN l 8 i = 0) := bitN_past l 8 i ha
    have hai : (i : Int) / 8 = ((i / 8 : Nat) : Int) := by omega
    obtain ⟨ao, cap, rfl⟩ := h.len
    generalize i / 8 = a at ha hai
    clear h
    go_enter Tryd.func43, Tryd.ntmps43
    go_wp2
    go_ret
    rw [HB.out]
    exact ⟨rfl, Below.refl _ _⟩

set_option maxHeartbeats 2000000 in
theorem bit5 (w : World) (B : Nat) (v : Value) (l : List UInt8) (h : Rd B w v l) (i : Nat) (hi : i ≤ 100000000) (hl : l.length ≤ 1000000) :
    Calls Tryd.prog 43 #[v, .int .i64 5, .int .i64 (i : Int)] w fun x w' => x = .returned (.int .u8 (bitN l 5 i : Nat)) ∧ Below w.heap.size w w' := by
  by_cases ha : i / 5 < l.length
  · obtain ⟨b0, off, cap, rfl, hcap, _, hcl⟩ := h.at (by omega)
    have hck := hcl (i / 5) ha
    have hai : (i : Int) / 5 = ((i / 5 : Nat) : Int) := by omega
    clear h
    go_enter Tryd.func43, Tryd.ntmps43
    rcases (show i % 5 = 0 ∨ i % 5 = 1 ∨ i % 5 = 2 ∨ i % 5 = 3 ∨ i % 5 = 4 by omega) with hr | hr | hr | hr | hr
    · have HB : Hid (bitN l 5 i = l[i / 5].toNat / 2 ^ 4 % 2) := bitN_at l 5 i (i / 5) 0 rfl hr ha
      have hri : (i : Int) % 5 = 0 := by omega
      generalize l[i / 5].toNat = c at hck HB
      generalize i / 5 = a at hck hai ha
      clear hcl hr
      go_wp2_with fail
      go_quiet (fail)
      go_wp2
      go_ret
      refine ⟨?_, Below.drewN' _ _ _⟩
      rw [HB.out]
      simp
    · have HB : Hid (bitN l 5 i = l[i / 5].toNat / 2 ^ 3 % 2) := bitN_at l 5 i (i / 5) 1 rfl hr ha
      have hri : (i : Int) % 5 = 1 := by omega
      generalize l[i / 5].toNat = c at hck HB
      generalize i / 5 = a at hck hai ha
      clear hcl hr
      go_wp2_with fail
      go_quiet (fail)
      go_wp2
      go_ret
      refine ⟨?_, Below.drewN' _ _ _⟩
      rw [HB.out]
      simp
    · have HB : Hid (bitN l 5 i = l[i / 5].toNat / 2 ^ 2 % 2) := bitN_at l 5 i (i / 5) 2 rfl hr ha
      have hri : (i : Int) % 5 = 2 := by omega
      generalize l[i / 5].toNat = c at hck HB
      generalize i / 5 = a at hck hai ha
      clear hcl hr
      go_wp2_with fail
      go_quiet (fail)
      go_wp2
      go_ret
      refine ⟨?_, Below.drewN' _ _ _⟩
      rw [HB.out]
      simp
    · have HB : Hid (bitN l 5 i = l[i / 5].toNat / 2 ^ 1 % 2) := bitN_at l 5 i (i / 5) 3 rfl hr ha
      have hri : (i : Int) % 5 = 3 := by omega
      generalize l[i / 5].toNat = c at hck HB
      generalize i / 5 = a at hck hai ha
      clear hcl hr
      go_wp2_with fail
      go_quiet (fail)
      go_wp2
      go_ret
      refine ⟨?_, Below.drewN' _ _ _⟩
      rw [HB.out]
      simp
    · have HB : Hid (bitN l 5 i = l[i / 5].toNat / 2 ^ 0 % 2) := bitN_at l 5 i (i / 5) 4 rfl hr ha
      have hri : (i : Int) % 5 = 4 := by omega
      generalize l[i / 5].toNat = c at hck HB
      generalize i / 5 = a at hck hai ha
      clear hcl hr
      go_wp2_with fail
      go_quiet (fail)
      go_wp2
      go_ret
      refine ⟨?_, Below.drewN' _ _ _⟩
      rw [HB.out]
      simp
  · have HB : Hid (bitN l 5 i = 0) := bitN_past l 5 i ha
    have hai : (i : Int) / 5 = ((i / 5 : Nat) : Int) := by omega
    obtain ⟨ao, cap, rfl⟩ := h.len
    generalize i / 5 = a at ha hai
    clear h
    go_enter Tryd.func43, Tryd.ntmps43
    go_wp2
    go_ret
    rw [HB.out]
    exact ⟨rfl, Below.refl _ _⟩

theorem bit8_r (w : World) (B : Nat) (v : Value) (l : List UInt8) (h : Rd B w v l) (i : Nat) (hi : i ≤ 100000000) (hl : l.length ≤ 1000000) (z : Int) (hz : z = (i : Int)) (b : Nat) (hb : bitN l 8 i = b) :
    Calls Tryd.prog 43 #[v, .int .i64 8, .int .i64 z] w fun x w' => x = .returned (.int .u8 (b : Int)) ∧ Below w.heap.size w w' := by
  subst hz hb; exact bit8 w B v l h i hi hl

set_option maxHeartbeats 2000000 in
theorem packed85 (w : World) (B : Nat) (v : Value) (l : List UInt8) (h : Rd B w v l) (m : Nat) (hm : m ≤ 200000) (hl : l.length ≤ 100000) :
    Calls Tryd.prog 36 #[v, .int .i64 8, .int .i64 5, .int .i64 (m : Int)] w fun x w' => ∃ v', x = .returned v' ∧ Own 5 w.heap.size w' v' (pk l 8 5 m) ∧ Below w.heap.size w w' := by
  have hrd : Hid (Rs w v l) := h.rs
  clear h
  go_enter Tryd.func36, Tryd.ntmps36
  go_wp2
  go_loopw [9, 10] (fun o i wr => ∃ k : Nat, k ≤ m ∧ i = .int .i64 k ∧ Own 5 w.heap.size wr o (pk l 8 5 k) ∧ Below w.heap.size w wr) (fun _ i _ => m - (intOf i).toNat)
  case atStart => exact ⟨0, by omega, rfl, Own.empty 5 w.heap.size w (Nat.le_refl _), (Below.refl _ _).alloc (Nat.le_refl _) _⟩
  case round =>
    obtain ⟨k, hk, rfl, ho, hb⟩ := hrel
    have Ho : Hid (Own 5 w.heap.size wr u9 (pk l 8 5 k)) := ho
    have Hb : Hid (Below w.heap.size w wr) := hb
    clear ho hb
    by_cases hlt : k < m
    · go_wp2_with fail
      go_loopw [11, 12] (fun x j wr => ∃ n q : Nat, n ≤ 5 ∧ j = .int .i64 n ∧ x = .int .u8 q ∧ Hid (q = top l 8 (k * 5 + n) % 2 ^ n) ∧ Own 5 w.heap.size wr u9 (pk l 8 5 k) ∧ Below w.heap.size w wr) (fun _ j _ => 5 - (intOf j).toNat)
      case atStart => exact ⟨0, 0, by omega, rfl, rfl, (Nat.mod_one _).symm, Ho.out, Hb.out⟩
      case round =>
        obtain ⟨n, q, hn, rfl, rfl, HQ, ho, hb⟩ := hrel
        have Ho2 : Hid (Own 5 w.heap.size wr u9 (pk l 8 5 k)) := ho
        have Hb2 : Hid (Below w.heap.size w wr) := hb
        clear ho hb
        by_cases hnT : n < 5
        · obtain ⟨b, HB⟩ : ∃ b : Nat, Hid (bitN l 8 (k * 5 + n) = b) := ⟨bitN l 8 (k * 5 + n), rfl⟩
          have hb2 : b < 2 := by rw [← HB.out]; exact bitN_lt _ _ _
          have HS : Hid (top l 8 (k * 5 + (n + 1)) % 2 ^ (n + 1) = 2 * q + b) := by show _ = _; rw [top_mod, HQ.out, HB.out]
          have hq : q < 128 := by
            rw [HQ.out]
            have h1 := Nat.mod_lt (top l 8 (k * 5 + n)) (two_pos n)
            have h2 : 2 ^ n ≤ 2 ^ 7 := Nat.pow_le_pow_right (by decide) (by omega)
            omega
          go_wp2_with fail
          refine (bit8_r _ _ _ l (hrd.out.gr Hb2.out) (k * 5 + n) (by omega) (by omega) _ (by go_num) b HB.out).mono ?_
          rintro e w1 ⟨rfl, hb1⟩
          have Ho3 : Hid (Own 5 w.heap.size w1 u9 (pk l 8 5 k)) := Ho2.out.keep hb1
          have Hb3 : Hid (Below w.heap.size w w1) := Gr.trans Hb2.out hb1
          clear hb1
          go_wp2
          go_roundw
          case rel => exact ⟨n + 1, 2 * q + b, by omega, by go_num, by go_num, HS.out.symm, Ho3.out, Hb3.out⟩
          case measure => simp [intOf]; omega
        · obtain rfl : n = 5 := by omega
          have HD : Hid ((q : Int) = ((UInt8.ofNat (top l 8 (k * 5 + 5) % 2 ^ 5)).toNat : Int)) := by
            show _ = _
            rw [HQ.out]; simp only [UInt8.toNat_ofNat']; omega
          have HS : Hid (pk l 8 5 (k + 1) = pk l 8 5 k ++ [UInt8.ofNat (top l 8 (k * 5 + 5) % 2 ^ 5)]) := pk_step l 8 5 k
          have hlen : (pk l 8 5 k).length ≤ 200000 := by rw [pk, dg_length]; omega
          generalize UInt8.ofNat (top l 8 (k * 5 + 5) % 2 ^ 5) = u at HD HS
          go_wp2_with (at_builtin; refine wpList_append_rd Tryd.bt rfl (.tmp 35) (.tmp 37) rfl w.heap.size _ _ _ _ [u] rfl (Ho2.out.alloc _) rfl (Rd.one 5 _ _ _ HD.out) (by show _ + 1 ≤ _; omega) (by have := Hb2.out.size; simp; omega) ?_; intro v2 w2 ho2 hb2)
          go_roundw
          case rel => exact ⟨k + 1, by omega, by go_num, by rw [HS.out]; exact ho2, Hb2.out.trans (((Below.refl _ _).alloc (by have := Hb2.out.size; omega) _).trans hb2)⟩
          case measure => simp [intOf]; omega
    · obtain rfl : k = m := by omega
      go_wp2
      go_ret
      exact ⟨_, rfl, Ho.out, Hb.out⟩

theorem bit5_r (w : World) (B : Nat) (v : Value) (l : List UInt8) (h : Rd B w v l) (i : Nat) (hi : i ≤ 100000000) (hl : l.length ≤ 1000000) (z : Int) (hz : z = (i : Int)) (b : Nat) (hb : bitN l 5 i = b) :
    Calls Tryd.prog 43 #[v, .int .i64 5, .int .i64 z] w fun x w' => x = .returned (.int .u8 (b : Int)) ∧ Below w.heap.size w w' := by
  subst hz hb; exact bit5 w B v l h i hi hl

set_option maxHeartbeats 2000000 in
theorem packed58 (w : World) (B : Nat) (v : Value) (l : List UInt8) (h : Rd B w v l) (m : Nat) (hm : m ≤ 200000) (hl : l.length ≤ 100000) :
    Calls Tryd.prog 36 #[v, .int .i64 5, .int .i64 8, .int .i64 (m : Int)] w fun x w' => ∃ v', x = .returned v' ∧ Own 5 w.heap.size w' v' (pk l 5 8 m) ∧ Below w.heap.size w w' := by
  have hrd : Hid (Rs w v l) := h.rs
  clear h
  go_enter Tryd.func36, Tryd.ntmps36
  go_wp2
  go_loopw [9, 10] (fun o i wr => ∃ k : Nat, k ≤ m ∧ i = .int .i64 k ∧ Own 5 w.heap.size wr o (pk l 5 8 k) ∧ Below w.heap.size w wr) (fun _ i _ => m - (intOf i).toNat)
  case atStart => exact ⟨0, by omega, rfl, Own.empty 5 w.heap.size w (Nat.le_refl _), (Below.refl _ _).alloc (Nat.le_refl _) _⟩
  case round =>
    obtain ⟨k, hk, rfl, ho, hb⟩ := hrel
    have Ho : Hid (Own 5 w.heap.size wr u9 (pk l 5 8 k)) := ho
    have Hb : Hid (Below w.heap.size w wr) := hb
    clear ho hb
    by_cases hlt : k < m
    · go_wp2_with fail
      go_loopw [11, 12] (fun x j wr => ∃ n q : Nat, n ≤ 8 ∧ j = .int .i64 n ∧ x = .int .u8 q ∧ Hid (q = top l 5 (k * 8 + n) % 2 ^ n) ∧ Own 5 w.heap.size wr u9 (pk l 5 8 k) ∧ Below w.heap.size w wr) (fun _ j _ => 8 - (intOf j).toNat)
      case atStart => exact ⟨0, 0, by omega, rfl, rfl, (Nat.mod_one _).symm, Ho.out, Hb.out⟩
      case round =>
        obtain ⟨n, q, hn, rfl, rfl, HQ, ho, hb⟩ := hrel
        have Ho2 : Hid (Own 5 w.heap.size wr u9 (pk l 5 8 k)) := ho
        have Hb2 : Hid (Below w.heap.size w wr) := hb
        clear ho hb
        by_cases hnT : n < 8
        · obtain ⟨b, HB⟩ : ∃ b : Nat, Hid (bitN l 5 (k * 8 + n) = b) := ⟨bitN l 5 (k * 8 + n), rfl⟩
          have hb2 : b < 2 := by rw [← HB.out]; exact bitN_lt _ _ _
          have HS : Hid (top l 5 (k * 8 + (n + 1)) % 2 ^ (n + 1) = 2 * q + b) := by show _ = _; rw [top_mod, HQ.out, HB.out]
          have hq : q < 128 := by
            rw [HQ.out]
            have h1 := Nat.mod_lt (top l 5 (k * 8 + n)) (two_pos n)
            have h2 : 2 ^ n ≤ 2 ^ 7 := Nat.pow_le_pow_right (by decide) (by omega)
            omega
          go_wp2_with fail
          refine (bit5_r _ _ _ l (hrd.out.gr Hb2.out) (k * 8 + n) (by omega) (by omega) _ (by go_num) b HB.out).mono ?_
          rintro e w1 ⟨rfl, hb1⟩
          have Ho3 : Hid (Own 5 w.heap.size w1 u9 (pk l 5 8 k)) := Ho2.out.keep hb1
          have Hb3 : Hid (Below w.heap.size w w1) := Gr.trans Hb2.out hb1
          clear hb1
          go_wp2
          go_roundw
          case rel => exact ⟨n + 1, 2 * q + b, by omega, by go_num, by go_num, HS.out.symm, Ho3.out, Hb3.out⟩
          case measure => simp [intOf]; omega
        · obtain rfl : n = 8 := by omega
          have HD : Hid ((q : Int) = ((UInt8.ofNat (top l 5 (k * 8 + 8) % 2 ^ 8)).toNat : Int)) := by
            show _ = _
            rw [HQ.out]; simp only [UInt8.toNat_ofNat']; omega
          have HS : Hid (pk l 5 8 (k + 1) = pk l 5 8 k ++ [UInt8.ofNat (top l 5 (k * 8 + 8) % 2 ^ 8)]) := pk_step l 5 8 k
          have hlen : (pk l 5 8 k).length ≤ 200000 := by rw [pk, dg_length]; omega
          generalize UInt8.ofNat (top l 5 (k * 8 + 8) % 2 ^ 8) = u at HD HS
          go_wp2_with (at_builtin; refine wpList_append_rd Tryd.bt rfl (.tmp 35) (.tmp 37) rfl w.heap.size _ _ _ _ [u] rfl (Ho2.out.alloc _) rfl (Rd.one 5 _ _ _ HD.out) (by show _ + 1 ≤ _; omega) (by have := Hb2.out.size; simp; omega) ?_; intro v2 w2 ho2 hb2)
          go_roundw
          case rel => exact ⟨k + 1, by omega, by go_num, by rw [HS.out]; exact ho2, Hb2.out.trans (((Below.refl _ _).alloc (by have := Hb2.out.size; omega) _).trans hb2)⟩
          case measure => simp [intOf]; omega
    · obtain rfl : k = m := by omega
      go_wp2
      go_ret
      exact ⟨_, rfl, Ho.out, Hb.out⟩

end Go.Proofs.YtemgaoikngebeaaDoor
