/-
  Contract of package bech: the six that close a word.
-/
import Derived.Test.YtemgaoikngebeaaDoorB2
namespace Go.Proofs.YtemgaoikngebeaaDoor
open Go.RowKit

def hi3 (c : UInt8) : UInt8 := UInt8.ofNat (c.toNat / 32)
def lo5 (c : UInt8) : UInt8 := UInt8.ofNat (c.toNat % 32)
theorem hrow_eq (h : List UInt8) : hrow h = h.map hi3 ++ [0] ++ h.map lo5 := rfl
theorem hi3_int (c : UInt8) : (c.toNat : Int) / 32 = ((hi3 c).toNat : Int) := by
  have := c.toNat_lt
  simp only [hi3, UInt8.toNat_ofNat']; omega
theorem lo5_int (c : UInt8) : (c.toNat : Int) % 32 = ((lo5 c).toNat : Int) := by
  have := c.toNat_lt
  simp only [lo5, UInt8.toNat_ofNat']; omega
theorem and31 (a : Nat) (h : a < 256) : bits .and .u8 (a : Int) 31 = ((a % 32 : Nat) : Int) := by
  have : ∀ t : Fin 256, bits .and .u8 (t.val : Int) 31 = ((t.val % 32 : Nat) : Int) := by decide +kernel
  exact this ⟨a, h⟩
theorem map_take_succ (f : UInt8 → UInt8) (l : List UInt8) (k : Nat) (h : k < l.length) : (l.take (k + 1)).map f = (l.take k).map f ++ [f l[k]] := by
  rw [List.take_succ_eq_append_getElem h, List.map_append]; rfl

/-- What has been filled in so far, from the end. -/
def fillSix (n k : Nat) : List UInt8 := List.replicate (6 - k) 0 ++ ((six n).map UInt8.ofNat).drop (6 - k)
theorem fillSix_length (n k : Nat) (_h : k ≤ 6) : (fillSix n k).length = 6 := by simp [fillSix, six]
theorem fillSix_step (n k : Nat) (h : k < 6) : (fillSix n k).set (5 - k) (UInt8.ofNat (n / 2 ^ (5 * k) % 32)) = fillSix n (k + 1) := by
  match k, h with
  | 0, _ => simp [fillSix, six, List.replicate]
  | 1, _ => simp [fillSix, six, List.replicate]
  | 2, _ => simp [fillSix, six, List.replicate]
  | 3, _ => simp [fillSix, six, List.replicate]
  | 4, _ => simp [fillSix, six, List.replicate]
  | 5, _ => simp [fillSix, six]
theorem byte_five (n k : Nat) : bits .and .u8 ((n : Int) / 2 ^ (5 * k) % 256) 31 = ((UInt8.ofNat (n / 2 ^ (5 * k) % 32)).toNat : Int) := by
  have e : ((n : Int) / 2 ^ (5 * k) % 256) = ((n / 2 ^ (5 * k) % 256 : Nat) : Int) := by simp
  rw [e, and31 _ (by omega)]
  simp only [UInt8.toNat_ofNat']
  omega

set_option maxHeartbeats 2000000 in
set_option maxRecDepth 100000 in
theorem closed_any (w : World) (s : ByteArray) (hs : s.size ≤ 100000) (B : Nat) (v : Value) (l : List UInt8) (h : Rd B w v l) (hl : l.length ≤ 100000) (ht : Tn w) :
    Calls Tryd.prog 28 #[.string s, v] w fun e w' => ∃ v', e = .returned v' ∧ Own 5 w.heap.size w' v' (closeL (bl s) l) ∧ Below w.heap.size w w' := by
  have hrd : Hid (Rs w v l) := h.rs
  have HT : Hid (Tn w) := ht
  obtain ⟨ao, cap, rfl⟩ := h.len
  clear h ht
  go_enter Tryd.func28, Tryd.ntmps28
  go_wp2
  go_loopw [5, 13] (fun r i wr => ∃ k : Nat, k ≤ s.size ∧ i = .int .i64 k ∧ Own 5 w.heap.size wr r (((bl s).take k).map hi3) ∧ Below w.heap.size w wr) (fun _ i _ => s.size - (intOf i).toNat)
  case atStart => exact ⟨0, by omega, rfl, Own.nil _ _ _, Below.refl _ _⟩
  case round =>
    obtain ⟨k, hk, rfl, ho, hb⟩ := hrel
    by_cases hlt : k < s.size
    · have hbl : k < (bl s).length := by rw [bl_length]; exact hlt
      have hix := fun w => run_at s k hlt _ rfl w (k : Int) rfl
      have HS : Hid (((bl s).take (k + 1)).map hi3 = ((bl s).take k).map hi3 ++ [hi3 (bl s)[k]]) := map_take_succ hi3 _ k hbl
      have HI : Hid (((bl s)[k].toNat : Int) / 32 = ((hi3 (bl s)[k]).toNat : Int)) := hi3_int _
      have hc := (bl s)[k].toNat_lt
      have hlen : (((bl s).take k).map hi3).length ≤ 100000 := by simp [bl_length]; omega
      generalize hi3 (bl s)[k] = d at HS HI
      generalize (bl s)[k].toNat = c at hix HI hc
      clear hbl
      go_wp2_with (at_builtin; refine wpList_append_rd Tryd.bt rfl (.tmp 16) (.tmp 21) rfl w.heap.size _ _ _ _ [d] rfl (ho.alloc _) rfl (Rd.one 5 _ _ _ HI.out) (by show _ + 1 ≤ _; omega) (by have := hb.size; simp; omega) ?_; intro v2 w2 ho2 hb2)
      go_roundw
      case rel => exact ⟨k + 1, by omega, by go_num, by rw [HS.out]; exact ho2, hb.trans (((Below.refl _ _).alloc (by have := hb.size; omega) _).trans hb2)⟩
      case measure => simp [intOf]; omega
    · obtain rfl : k = s.size := by omega
      rw [List.take_of_length_le (by rw [bl_length]; omega)] at ho
      have Ho1 : Hid (Own 5 w.heap.size wr u5 ((bl s).map hi3)) := ho
      have Hb1 : Hid (Below w.heap.size w wr) := hb
      clear ho hb
      go_wp2_with (at_builtin; refine wpList_append_rd Tryd.bt rfl (.tmp 24) (.tmp 25) rfl w.heap.size _ _ _ _ [0] rfl (Ho1.out.alloc _) rfl (Rd.one 5 _ _ _ rfl) (by simp [bl_length]; omega) (by have := Hb1.out.size; simp; omega) ?_; intro v2 w2 ho2 hb2)
      have Ho2 : Hid (Own 5 w.heap.size w2 v2 ((bl s).map hi3 ++ [0])) := ho2
      have Hb2 : Hid (Below w.heap.size w w2) := Hb1.out.trans (((Below.refl _ _).alloc (by have := Hb1.out.size; omega) _).trans hb2)
      clear ho2 hb2 Ho1 Hb1
      go_loopw [5, 29] (fun r i wr => ∃ k : Nat, k ≤ s.size ∧ i = .int .i64 k ∧ Own 5 w.heap.size wr r ((bl s).map hi3 ++ [0] ++ ((bl s).take k).map lo5) ∧ Below w.heap.size w wr) (fun _ i _ => s.size - (intOf i).toNat)
      case atStart => exact ⟨0, by omega, rfl, by simpa using Ho2.out, Hb2.out⟩
      case round =>
        obtain ⟨k, hk, rfl, ho, hb⟩ := hrel
        by_cases hlt : k < s.size
        · have hbl : k < (bl s).length := by rw [bl_length]; exact hlt
          have hix := fun w => run_at s k hlt _ rfl w (k : Int) rfl
          have HS : Hid (((bl s).take (k + 1)).map lo5 = ((bl s).take k).map lo5 ++ [lo5 (bl s)[k]]) := map_take_succ lo5 _ k hbl
          have HI : Hid (((bl s)[k].toNat : Int) % 32 = ((lo5 (bl s)[k]).toNat : Int)) := lo5_int _
          have hc := (bl s)[k].toNat_lt
          have hlen : ((bl s).map hi3 ++ [0] ++ ((bl s).take k).map lo5).length ≤ 300000 := by simp [bl_length]; omega
          generalize lo5 (bl s)[k] = d at HS HI
          generalize (bl s)[k].toNat = c at hix HI hc
          clear hbl
          go_wp2_with (at_builtin; refine wpList_append_rd Tryd.bt rfl (.tmp 32) (.tmp 37) rfl w.heap.size _ _ _ _ [d] rfl (ho.alloc _) rfl (Rd.one 5 _ _ _ HI.out) (by show _ + 1 ≤ _; omega) (by have := hb.size; simp; omega) ?_; intro v2 w2 ho2 hb2)
          go_roundw
          case rel => exact ⟨k + 1, by omega, by go_num, by rw [HS.out, ← List.append_assoc]; exact ho2, hb.trans (((Below.refl _ _).alloc (by have := hb.size; omega) _).trans hb2)⟩
          case measure => simp [intOf]; omega
        · obtain rfl : k = s.size := by omega
          rw [List.take_of_length_le (by rw [bl_length]; omega), ← hrow_eq] at ho
          have hlen : (hrow (bl s)).length ≤ 300000 := by simp [hrow_eq, bl_length]; omega
          have Ho3 : Hid (Own 5 w.heap.size wr u5 (hrow (bl s))) := ho
          have Hb3 : Hid (Below w.heap.size w wr) := hb
          clear ho hb Ho2 Hb2
          go_wp2_with (first
            | (at_builtin; refine wpList_append_rd Tryd.bt rfl (.tmp 40) (.tmp 41) rfl w.heap.size _ _ _ _ l rfl Ho3.out rfl (hrd.out.gr Hb3.out) (by omega) (by have := Hb3.out.size; omega) ?_; intro v4 w4 ho4 hb4)
            | (at_make; refine wpList_make_nums Tryd.bt rfl _ _ rfl w.heap.size _ _ 6 rfl rfl (by omega) (by have := Hb3.out.size; have := hb4.size; omega) ?_; intro g w5 ho5 hb5 hg5 hs5)
            | (at_builtin; refine wpList_append_by Tryd.bt rfl (.tmp 44) (.tmp 45) rfl w.heap.size _ _ _ _ (List.replicate 6 0) rfl (ho4.keep hg5) rfl ho5.rd (by simp; omega) (by have := Hb3.out.size; have := hb4.size; have := hb5.size; omega) ?_; intro v6 w6 ho6 hb6 hg6))
          have Hb6 : Hid (Below w.heap.size w w6) := ((Hb3.out.trans hb4).trans hb5).trans hb6
          have Ho6 : Hid (Own 5 w.heap.size w6 (.slice (some ⟨g, 0, none⟩) 6 6) (List.replicate 6 0)) := Own.kept ho5 ho4 hg6 hs5
          obtain ⟨q, Hq⟩ : ∃ q : Nat, Hid (ck (hrow (bl s) ++ l ++ List.replicate 6 0) = q) := ⟨ck (hrow (bl s) ++ l ++ List.replicate 6 0), rfl⟩
          refine (check_r w6 _ v6 _ ho6.rd (by simp; omega) (HT.out.gr Hb6.out) q Hq.out).mono ?_
          rintro e w7 ⟨rfl, rfl⟩
          have hx : bits .xor .u32 (q : Int) 734539939 = ((lacks (bl s) l : Nat) : Int) := by
            have := u32_xor_nat q 734539939 (by rw [← Hq.out]; have := ck_lt (hrow (bl s) ++ l ++ List.replicate 6 0); omega) (by decide)
            rw [← Hq.out] at this ⊢
            exact this
          have HL : Hid (closeL (bl s) l = fillSix (lacks (bl s) l) 6) := rfl
          generalize lacks (bl s) l = n at hx HL
          clear ho6 hb6 hg6 ho5 hb5 hg5 ho4 hb4 Ho3 Hb3 hlen
          go_wp2_with fail
          go_loopw [49] (fun i wr => ∃ k : Nat, k ≤ 6 ∧ i = .int .i64 k ∧ Own 5 w.heap.size wr (.slice (some ⟨g, 0, none⟩) 6 6) (fillSix n k) ∧ Below w.heap.size w wr) (fun i _ => 6 - (intOf i).toNat)
          case atStart => exact ⟨0, by omega, rfl, by simpa [fillSix, six] using Ho6.out, Hb6.out⟩
          case round =>
            obtain ⟨k, hk, rfl, ho, hb⟩ := hrel
            by_cases hk6 : k < 6
            · have hwas := Own.was ho (fillSix_length n k hk) (5 - k) (by rw [fillSix_length n k hk]; omega)
              generalize ((fillSix n k)[5 - k]'(by rw [fillSix_length n k hk]; omega)).toNat = old at hwas
              have HS : Hid (∀ z : Int, z = ((UInt8.ofNat (n / 2 ^ (5 * k) % 32)).toNat : Int) → Own 5 w.heap.size (wr.setCell ⟨g, 5 - k, none⟩ (.int .u8 z)) (.slice (some ⟨g, 0, none⟩) 6 6) (fillSix n (k + 1)) ∧ Below w.heap.size wr (wr.setCell ⟨g, 5 - k, none⟩ (.int .u8 z))) := by
                show ∀ _, _
                intro z hz
                have := Own.store ho (5 - k) _ z hz
                rw [fillSix_step n k hk6] at this
                exact this
              have Hb : Hid (Below w.heap.size w wr) := hb
              obtain ⟨hwc, hwf⟩ := hwas
              clear ho hb
              obtain rfl | rfl | rfl | rfl | rfl | rfl : k = 0 ∨ k = 1 ∨ k = 2 ∨ k = 3 ∨ k = 4 ∨ k = 5 := by omega
              all_goals
                go_wp2
                go_roundw
                case rel => refine ⟨_, ?_, rfl, (HS.out _ (by simp only [UInt8.toNat_ofNat']; omega)).1, Hb.out.trans (HS.out _ (by simp only [UInt8.toNat_ofNat']; omega)).2⟩; decide
                case measure => simp [intOf]
            · obtain rfl : k = 6 := by omega
              have Ho : Hid (Own 5 w.heap.size wr (.slice (some ⟨g, 0, none⟩) 6 6) (fillSix n 6)) := ho
              clear ho
              go_wp2
              go_ret
              rw [HL.out]
              exact ⟨_, rfl, Ho.out, hb⟩
end Go.Proofs.YtemgaoikngebeaaDoor
