/-
  Contracts of package bech: regroup (bytes to numbers of five bits, and back), Spread, Gather.
-/
import Derived.Test.YtemgaoikngebeaaDoorB9
import Derived.Test.YtemgaoikngebeaaDoorBts
namespace Go.Proofs.YtemgaoikngebeaaDoor
open Go.RowKit

theorem and_low (y d : Nat) (hy : y < 32768) (hd : d ≤ 12) : bits .and .u64 (y : Int) ((2 ^ d - 1 : Nat) : Int) = ((y % 2 ^ d : Nat) : Int) := by
  have h1 : 2 ^ d ≤ 2 ^ 12 := Nat.pow_le_pow_right (by decide) hd
  rw [u64_and_nat y (2 ^ d - 1) (by omega) (by omega), Nat.and_two_pow_sub_one_eq_mod]

set_option maxHeartbeats 4000000 in
set_option maxRecDepth 100000 in
theorem regroup85 (w : World) (B : Nat) (v : Value) (l : List UInt8) (h : Rd B w v l) (hl : l.length ≤ 100000) :
    Calls Tryd.prog 34 #[v, .int .i64 8, .int .i64 5] w fun e w' => ∃ (v' : Value) (g : List UInt8) (x c : Nat), e = .returned (.tuple #[v', .int .u64 (x : Int), .int .i64 (c : Int)]) ∧ Own 5 w.heap.size w' v' g ∧ Below w.heap.size w w' ∧ Inv 8 5 l l.length g x c ∧ c < 5 := by
  have hrd : Hid (Rs w v l) := h.rs
  obtain ⟨ao, cap, rfl⟩ := h.len
  clear h
  go_enter Tryd.func34, Tryd.ntmps34
  go_wp2
  go_loopw [9, 10, 11, 16] (fun gv xv cv i wr => ∃ (k : Nat) (g : List UInt8) (x c : Nat), k ≤ l.length ∧ i = .int .i64 k ∧ xv = .int .u64 (x : Int) ∧ cv = .int .i64 (c : Int) ∧ c < 5 ∧ Own 5 w.heap.size wr gv g ∧ Below w.heap.size w wr ∧ Hid (Inv 8 5 l k g x c)) (fun _ _ _ i _ => l.length - (intOf i).toNat)
  case atStart => exact ⟨0, [], 0, 0, by omega, rfl, rfl, rfl, by omega, Own.nil _ _ _, Below.refl _ _, Inv.start _ _ _⟩
  case round =>
    obtain ⟨k, g, x, c, hk, rfl, rfl, rfl, hc, ho, hb, HI⟩ := hrel
    by_cases hlt : k < l.length
    · obtain ⟨b0, off, cap', ev, hcap, _, hcl⟩ := (hrd.out.gr hb).at (by omega)
      simp only [Value.slice.injEq] at ev
      obtain ⟨rfl, _, rfl⟩ := ev
      have hck := hcl k hlt
      have HJ : Hid (Inv 8 5 l (k + 1) g (x * 2 ^ 8 ||| l[k].toNat) (c + 8)) := Inv.add HI.out (by decide) hlt
      have hv := l[k].toNat_lt
      have hx : x < 4096 := by
        have h2 := HI.out.2.1
        have h3 : 2 ^ (c + 3) ≤ 2 ^ 12 := Nat.pow_le_pow_right (by decide) (by omega)
        omega
      have hor : bits .or .u64 ((x : Int) * 256) (l[k].toNat : Int) = ((x * 2 ^ 8 ||| l[k].toNat : Nat) : Int) := by
        have := u64_or_nat (x * 256) l[k].toNat (by omega) (by omega)
        simpa using this
      generalize l[k].toNat = vv at hck HJ hv hor
      generalize x * 2 ^ 8 ||| vv = y at HJ hor
      have Ho : Hid (Own 5 w.heap.size wr u9 g) := ho
      have Hb : Hid (Below w.heap.size w wr) := hb
      clear hcl HI ho hb
      go_wp2_with fail
      go_loopw [9, 10, 11] (fun gv xv cv wr => ∃ (g : List UInt8) (x c : Nat), xv = .int .u64 (x : Int) ∧ cv = .int .i64 (c : Int) ∧ c ≤ 12 ∧ Own 5 w.heap.size wr gv g ∧ Below w.heap.size w wr ∧ Hid (Inv 8 5 l (k + 1) g x c)) (fun _ _ cv _ => (intOf cv).toNat)
      case atStart => exact ⟨g, y, c + 8, rfl, by go_num, by omega, Ho.out, Hb.out, HJ.out⟩
      case round =>
        obtain ⟨g, y, c, rfl, rfl, hc, ho, hb, HI⟩ := hrel
        by_cases hcT : 5 ≤ c
        · obtain ⟨d, rfl⟩ : ∃ d, c = d + 5 := ⟨c - 5, by omega⟩
          have HE : Hid (Inv 8 5 l (k + 1) (g ++ [UInt8.ofNat (y / 2 ^ d)]) (y % 2 ^ d) d) := Inv.emit HI.out (by decide)
          have HY : Hid (y < 32768) := by
            have h2 := HI.out.2.1
            have h3 : 2 ^ (d + 5 + 3) ≤ 2 ^ 15 := Nat.pow_le_pow_right (by decide) (by omega)
            show _ < _
            omega
          have hgl : g.length ≤ 1000000 := by have := HI.out.1; omega
          clear HI hcT
          obtain rfl | rfl | rfl | rfl | rfl | rfl | rfl | rfl : d = 0 ∨ d = 1 ∨ d = 2 ∨ d = 3 ∨ d = 4 ∨ d = 5 ∨ d = 6 ∨ d = 7 := by omega
          · have HD : Hid ((y : Int) % 256 = ((UInt8.ofNat (y / 2 ^ 0)).toNat : Int)) := by show _ = _; simp only [UInt8.toNat_ofNat']; omega
            have HA : Hid (bits .and .u64 (y : Int) 0 = ((y % 2 ^ 0 : Nat) : Int)) := and_low y 0 HY.out (by decide)
            generalize UInt8.ofNat (y / 2 ^ 0) = u at HE HD
            go_wp2_with (at_builtin; refine wpList_append_rd Tryd.bt rfl (.tmp 35) (.tmp 40) rfl w.heap.size _ _ _ _ [u] rfl (ho.alloc _) rfl (Rd.one 5 _ _ _ HD.out) (by show _ + 1 ≤ _; omega) (by have := hb.size; simp; omega) ?_; intro v2 w2 ho2 hb2)
            go_roundw
            case rel => exact ⟨_, _, 0, congrArg _ HA.out, rfl, by omega, ho2, hb.trans (((Below.refl _ _).alloc (by have := hb.size; omega) _).trans hb2), HE.out⟩
            case measure => simp [intOf]
          · have HD : Hid ((y : Int) / 2 % 256 = ((UInt8.ofNat (y / 2 ^ 1)).toNat : Int)) := by show _ = _; simp only [UInt8.toNat_ofNat']; omega
            have HA : Hid (bits .and .u64 (y : Int) 1 = ((y % 2 ^ 1 : Nat) : Int)) := and_low y 1 HY.out (by decide)
            generalize UInt8.ofNat (y / 2 ^ 1) = u at HE HD
            go_wp2_with (at_builtin; refine wpList_append_rd Tryd.bt rfl (.tmp 35) (.tmp 40) rfl w.heap.size _ _ _ _ [u] rfl (ho.alloc _) rfl (Rd.one 5 _ _ _ HD.out) (by show _ + 1 ≤ _; omega) (by have := hb.size; simp; omega) ?_; intro v2 w2 ho2 hb2)
            go_roundw
            case rel => exact ⟨_, _, 1, congrArg _ HA.out, rfl, by omega, ho2, hb.trans (((Below.refl _ _).alloc (by have := hb.size; omega) _).trans hb2), HE.out⟩
            case measure => simp [intOf]
          · have HD : Hid ((y : Int) / 4 % 256 = ((UInt8.ofNat (y / 2 ^ 2)).toNat : Int)) := by show _ = _; simp only [UInt8.toNat_ofNat']; omega
            have HA : Hid (bits .and .u64 (y : Int) 3 = ((y % 2 ^ 2 : Nat) : Int)) := and_low y 2 HY.out (by decide)
            generalize UInt8.ofNat (y / 2 ^ 2) = u at HE HD
            go_wp2_with (at_builtin; refine wpList_append_rd Tryd.bt rfl (.tmp 35) (.tmp 40) rfl w.heap.size _ _ _ _ [u] rfl (ho.alloc _) rfl (Rd.one 5 _ _ _ HD.out) (by show _ + 1 ≤ _; omega) (by have := hb.size; simp; omega) ?_; intro v2 w2 ho2 hb2)
            go_roundw
            case rel => exact ⟨_, _, 2, congrArg _ HA.out, rfl, by omega, ho2, hb.trans (((Below.refl _ _).alloc (by have := hb.size; omega) _).trans hb2), HE.out⟩
            case measure => simp [intOf]
          · have HD : Hid ((y : Int) / 8 % 256 = ((UInt8.ofNat (y / 2 ^ 3)).toNat : Int)) := by show _ = _; simp only [UInt8.toNat_ofNat']; omega
            have HA : Hid (bits .and .u64 (y : Int) 7 = ((y % 2 ^ 3 : Nat) : Int)) := and_low y 3 HY.out (by decide)
            generalize UInt8.ofNat (y / 2 ^ 3) = u at HE HD
            go_wp2_with (at_builtin; refine wpList_append_rd Tryd.bt rfl (.tmp 35) (.tmp 40) rfl w.heap.size _ _ _ _ [u] rfl (ho.alloc _) rfl (Rd.one 5 _ _ _ HD.out) (by show _ + 1 ≤ _; omega) (by have := hb.size; simp; omega) ?_; intro v2 w2 ho2 hb2)
            go_roundw
            case rel => exact ⟨_, _, 3, congrArg _ HA.out, rfl, by omega, ho2, hb.trans (((Below.refl _ _).alloc (by have := hb.size; omega) _).trans hb2), HE.out⟩
            case measure => simp [intOf]
          · have HD : Hid ((y : Int) / 16 % 256 = ((UInt8.ofNat (y / 2 ^ 4)).toNat : Int)) := by show _ = _; simp only [UInt8.toNat_ofNat']; omega
            have HA : Hid (bits .and .u64 (y : Int) 15 = ((y % 2 ^ 4 : Nat) : Int)) := and_low y 4 HY.out (by decide)
            generalize UInt8.ofNat (y / 2 ^ 4) = u at HE HD
            go_wp2_with (at_builtin; refine wpList_append_rd Tryd.bt rfl (.tmp 35) (.tmp 40) rfl w.heap.size _ _ _ _ [u] rfl (ho.alloc _) rfl (Rd.one 5 _ _ _ HD.out) (by show _ + 1 ≤ _; omega) (by have := hb.size; simp; omega) ?_; intro v2 w2 ho2 hb2)
            go_roundw
            case rel => exact ⟨_, _, 4, congrArg _ HA.out, rfl, by omega, ho2, hb.trans (((Below.refl _ _).alloc (by have := hb.size; omega) _).trans hb2), HE.out⟩
            case measure => simp [intOf]
          · have HD : Hid ((y : Int) / 32 % 256 = ((UInt8.ofNat (y / 2 ^ 5)).toNat : Int)) := by show _ = _; simp only [UInt8.toNat_ofNat']; omega
            have HA : Hid (bits .and .u64 (y : Int) 31 = ((y % 2 ^ 5 : Nat) : Int)) := and_low y 5 HY.out (by decide)
            generalize UInt8.ofNat (y / 2 ^ 5) = u at HE HD
            go_wp2_with (at_builtin; refine wpList_append_rd Tryd.bt rfl (.tmp 35) (.tmp 40) rfl w.heap.size _ _ _ _ [u] rfl (ho.alloc _) rfl (Rd.one 5 _ _ _ HD.out) (by show _ + 1 ≤ _; omega) (by have := hb.size; simp; omega) ?_; intro v2 w2 ho2 hb2)
            go_roundw
            case rel => exact ⟨_, _, 5, congrArg _ HA.out, rfl, by omega, ho2, hb.trans (((Below.refl _ _).alloc (by have := hb.size; omega) _).trans hb2), HE.out⟩
            case measure => simp [intOf]
          · have HD : Hid ((y : Int) / 64 % 256 = ((UInt8.ofNat (y / 2 ^ 6)).toNat : Int)) := by show _ = _; simp only [UInt8.toNat_ofNat']; omega
            have HA : Hid (bits .and .u64 (y : Int) 63 = ((y % 2 ^ 6 : Nat) : Int)) := and_low y 6 HY.out (by decide)
            generalize UInt8.ofNat (y / 2 ^ 6) = u at HE HD
            go_wp2_with (at_builtin; refine wpList_append_rd Tryd.bt rfl (.tmp 35) (.tmp 40) rfl w.heap.size _ _ _ _ [u] rfl (ho.alloc _) rfl (Rd.one 5 _ _ _ HD.out) (by show _ + 1 ≤ _; omega) (by have := hb.size; simp; omega) ?_; intro v2 w2 ho2 hb2)
            go_roundw
            case rel => exact ⟨_, _, 6, congrArg _ HA.out, rfl, by omega, ho2, hb.trans (((Below.refl _ _).alloc (by have := hb.size; omega) _).trans hb2), HE.out⟩
            case measure => simp [intOf]
          · have HD : Hid ((y : Int) / 128 % 256 = ((UInt8.ofNat (y / 2 ^ 7)).toNat : Int)) := by show _ = _; simp only [UInt8.toNat_ofNat']; omega
            have HA : Hid (bits .and .u64 (y : Int) 127 = ((y % 2 ^ 7 : Nat) : Int)) := and_low y 7 HY.out (by decide)
            generalize UInt8.ofNat (y / 2 ^ 7) = u at HE HD
            go_wp2_with (at_builtin; refine wpList_append_rd Tryd.bt rfl (.tmp 35) (.tmp 40) rfl w.heap.size _ _ _ _ [u] rfl (ho.alloc _) rfl (Rd.one 5 _ _ _ HD.out) (by show _ + 1 ≤ _; omega) (by have := hb.size; simp; omega) ?_; intro v2 w2 ho2 hb2)
            go_roundw
            case rel => exact ⟨_, _, 7, congrArg _ HA.out, rfl, by omega, ho2, hb.trans (((Below.refl _ _).alloc (by have := hb.size; omega) _).trans hb2), HE.out⟩
            case measure => simp [intOf]
        · have Ho2 : Hid (Own 5 w.heap.size wr u9 g) := ho
          have Hb2 : Hid (Below w.heap.size w wr) := hb
          clear ho hb
          go_wp2
          go_roundw
          case rel => exact ⟨k + 1, g, y, c, by omega, by go_num, rfl, rfl, by omega, Ho2.out, Hb2.out, HI.out⟩
          case measure => simp [intOf]; omega
    · obtain rfl : k = l.length := by omega
      have Ho2 : Hid (Own 5 w.heap.size wr u9 g) := ho
      have Hb2 : Hid (Below w.heap.size w wr) := hb
      clear ho hb
      go_wp2
      go_ret3
      exact ⟨_, g, x, c, rfl, Ho2.out, Hb2.out, HI.out, hc⟩

set_option maxHeartbeats 4000000 in
set_option maxRecDepth 100000 in
theorem regroup58 (w : World) (B : Nat) (v : Value) (l : List UInt8) (h : Rd B w v l) (hl : l.length ≤ 100000) :
    Calls Tryd.prog 34 #[v, .int .i64 5, .int .i64 8] w fun e w' => ∃ (v' : Value) (g : List UInt8) (x c : Nat), e = .returned (.tuple #[v', .int .u64 (x : Int), .int .i64 (c : Int)]) ∧ Own 5 w.heap.size w' v' g ∧ Below w.heap.size w w' ∧ Inv 5 8 l l.length g x c ∧ c < 8 := by
  have hrd : Hid (Rs w v l) := h.rs
  obtain ⟨ao, cap, rfl⟩ := h.len
  clear h
  go_enter Tryd.func34, Tryd.ntmps34
  go_wp2
  go_loopw [9, 10, 11, 16] (fun gv xv cv i wr => ∃ (k : Nat) (g : List UInt8) (x c : Nat), k ≤ l.length ∧ i = .int .i64 k ∧ xv = .int .u64 (x : Int) ∧ cv = .int .i64 (c : Int) ∧ c < 8 ∧ Own 5 w.heap.size wr gv g ∧ Below w.heap.size w wr ∧ Hid (Inv 5 8 l k g x c)) (fun _ _ _ i _ => l.length - (intOf i).toNat)
  case atStart => exact ⟨0, [], 0, 0, by omega, rfl, rfl, rfl, by omega, Own.nil _ _ _, Below.refl _ _, Inv.start _ _ _⟩
  case round =>
    obtain ⟨k, g, x, c, hk, rfl, rfl, rfl, hc, ho, hb, HI⟩ := hrel
    by_cases hlt : k < l.length
    · obtain ⟨b0, off, cap', ev, hcap, _, hcl⟩ := (hrd.out.gr hb).at (by omega)
      simp only [Value.slice.injEq] at ev
      obtain ⟨rfl, _, rfl⟩ := ev
      have hck := hcl k hlt
      have HJ : Hid (Inv 5 8 l (k + 1) g (x * 2 ^ 5 ||| l[k].toNat) (c + 5)) := Inv.add HI.out (by decide) hlt
      have hv := l[k].toNat_lt
      have hx : x < 4096 := by
        have h2 := HI.out.2.1
        have h3 : 2 ^ (c + 3) ≤ 2 ^ 12 := Nat.pow_le_pow_right (by decide) (by omega)
        omega
      have hor : bits .or .u64 ((x : Int) * 32) (l[k].toNat : Int) = ((x * 2 ^ 5 ||| l[k].toNat : Nat) : Int) := by
        have := u64_or_nat (x * 32) l[k].toNat (by omega) (by omega)
        simpa using this
      generalize l[k].toNat = vv at hck HJ hv hor
      generalize x * 2 ^ 5 ||| vv = y at HJ hor
      have Ho : Hid (Own 5 w.heap.size wr u9 g) := ho
      have Hb : Hid (Below w.heap.size w wr) := hb
      clear hcl HI ho hb
      go_wp2_with fail
      go_loopw [9, 10, 11] (fun gv xv cv wr => ∃ (g : List UInt8) (x c : Nat), xv = .int .u64 (x : Int) ∧ cv = .int .i64 (c : Int) ∧ c ≤ 12 ∧ Own 5 w.heap.size wr gv g ∧ Below w.heap.size w wr ∧ Hid (Inv 5 8 l (k + 1) g x c)) (fun _ _ cv _ => (intOf cv).toNat)
      case atStart => exact ⟨g, y, c + 5, rfl, by go_num, by omega, Ho.out, Hb.out, HJ.out⟩
      case round =>
        obtain ⟨g, y, c, rfl, rfl, hc, ho, hb, HI⟩ := hrel
        by_cases hcT : 8 ≤ c
        · obtain ⟨d, rfl⟩ : ∃ d, c = d + 8 := ⟨c - 8, by omega⟩
          have HE : Hid (Inv 5 8 l (k + 1) (g ++ [UInt8.ofNat (y / 2 ^ d)]) (y % 2 ^ d) d) := Inv.emit HI.out (by decide)
          have HY : Hid (y < 32768) := by
            have h2 := HI.out.2.1
            have h3 : 2 ^ (d + 8 + 3) ≤ 2 ^ 15 := Nat.pow_le_pow_right (by decide) (by omega)
            show _ < _
            omega
          have hgl : g.length ≤ 1000000 := by have := HI.out.1; omega
          clear HI hcT
          obtain rfl | rfl | rfl | rfl | rfl : d = 0 ∨ d = 1 ∨ d = 2 ∨ d = 3 ∨ d = 4 := by omega
          · have HD : Hid ((y : Int) % 256 = ((UInt8.ofNat (y / 2 ^ 0)).toNat : Int)) := by show _ = _; simp only [UInt8.toNat_ofNat']; omega
            have HA : Hid (bits .and .u64 (y : Int) 0 = ((y % 2 ^ 0 : Nat) : Int)) := and_low y 0 HY.out (by decide)
            generalize UInt8.ofNat (y / 2 ^ 0) = u at HE HD
            go_wp2_with (at_builtin; refine wpList_append_rd Tryd.bt rfl (.tmp 35) (.tmp 40) rfl w.heap.size _ _ _ _ [u] rfl (ho.alloc _) rfl (Rd.one 5 _ _ _ HD.out) (by show _ + 1 ≤ _; omega) (by have := hb.size; simp; omega) ?_; intro v2 w2 ho2 hb2)
            go_roundw
            case rel => exact ⟨_, _, 0, congrArg _ HA.out, rfl, by omega, ho2, hb.trans (((Below.refl _ _).alloc (by have := hb.size; omega) _).trans hb2), HE.out⟩
            case measure => simp [intOf]
          · have HD : Hid ((y : Int) / 2 % 256 = ((UInt8.ofNat (y / 2 ^ 1)).toNat : Int)) := by show _ = _; simp only [UInt8.toNat_ofNat']; omega
            have HA : Hid (bits .and .u64 (y : Int) 1 = ((y % 2 ^ 1 : Nat) : Int)) := and_low y 1 HY.out (by decide)
            generalize UInt8.ofNat (y / 2 ^ 1) = u at HE HD
            go_wp2_with (at_builtin; refine wpList_append_rd Tryd.bt rfl (.tmp 35) (.tmp 40) rfl w.heap.size _ _ _ _ [u] rfl (ho.alloc _) rfl (Rd.one 5 _ _ _ HD.out) (by show _ + 1 ≤ _; omega) (by have := hb.size; simp; omega) ?_; intro v2 w2 ho2 hb2)
            go_roundw
            case rel => exact ⟨_, _, 1, congrArg _ HA.out, rfl, by omega, ho2, hb.trans (((Below.refl _ _).alloc (by have := hb.size; omega) _).trans hb2), HE.out⟩
            case measure => simp [intOf]
          · have HD : Hid ((y : Int) / 4 % 256 = ((UInt8.ofNat (y / 2 ^ 2)).toNat : Int)) := by show _ = _; simp only [UInt8.toNat_ofNat']; omega
            have HA : Hid (bits .and .u64 (y : Int) 3 = ((y % 2 ^ 2 : Nat) : Int)) := and_low y 2 HY.out (by decide)
            generalize UInt8.ofNat (y / 2 ^ 2) = u at HE HD
            go_wp2_with (at_builtin; refine wpList_append_rd Tryd.bt rfl (.tmp 35) (.tmp 40) rfl w.heap.size _ _ _ _ [u] rfl (ho.alloc _) rfl (Rd.one 5 _ _ _ HD.out) (by show _ + 1 ≤ _; omega) (by have := hb.size; simp; omega) ?_; intro v2 w2 ho2 hb2)
            go_roundw
            case rel => exact ⟨_, _, 2, congrArg _ HA.out, rfl, by omega, ho2, hb.trans (((Below.refl _ _).alloc (by have := hb.size; omega) _).trans hb2), HE.out⟩
            case measure => simp [intOf]
          · have HD : Hid ((y : Int) / 8 % 256 = ((UInt8.ofNat (y / 2 ^ 3)).toNat : Int)) := by show _ = _; simp only [UInt8.toNat_ofNat']; omega
            have HA : Hid (bits .and .u64 (y : Int) 7 = ((y % 2 ^ 3 : Nat) : Int)) := and_low y 3 HY.out (by decide)
            generalize UInt8.ofNat (y / 2 ^ 3) = u at HE HD
            go_wp2_with (at_builtin; refine wpList_append_rd Tryd.bt rfl (.tmp 35) (.tmp 40) rfl w.heap.size _ _ _ _ [u] rfl (ho.alloc _) rfl (Rd.one 5 _ _ _ HD.out) (by show _ + 1 ≤ _; omega) (by have := hb.size; simp; omega) ?_; intro v2 w2 ho2 hb2)
            go_roundw
            case rel => exact ⟨_, _, 3, congrArg _ HA.out, rfl, by omega, ho2, hb.trans (((Below.refl _ _).alloc (by have := hb.size; omega) _).trans hb2), HE.out⟩
            case measure => simp [intOf]
          · have HD : Hid ((y : Int) / 16 % 256 = ((UInt8.ofNat (y / 2 ^ 4)).toNat : Int)) := by show _ = _; simp only [UInt8.toNat_ofNat']; omega
            have HA : Hid (bits .and .u64 (y : Int) 15 = ((y % 2 ^ 4 : Nat) : Int)) := and_low y 4 HY.out (by decide)
            generalize UInt8.ofNat (y / 2 ^ 4) = u at HE HD
            go_wp2_with (at_builtin; refine wpList_append_rd Tryd.bt rfl (.tmp 35) (.tmp 40) rfl w.heap.size _ _ _ _ [u] rfl (ho.alloc _) rfl (Rd.one 5 _ _ _ HD.out) (by show _ + 1 ≤ _; omega) (by have := hb.size; simp; omega) ?_; intro v2 w2 ho2 hb2)
            go_roundw
            case rel => exact ⟨_, _, 4, congrArg _ HA.out, rfl, by omega, ho2, hb.trans (((Below.refl _ _).alloc (by have := hb.size; omega) _).trans hb2), HE.out⟩
            case measure => simp [intOf]
        · have Ho2 : Hid (Own 5 w.heap.size wr u9 g) := ho
          have Hb2 : Hid (Below w.heap.size w wr) := hb
          clear ho hb
          go_wp2
          go_roundw
          case rel => exact ⟨k + 1, g, y, c, by omega, by go_num, rfl, rfl, by omega, Ho2.out, Hb2.out, HI.out⟩
          case measure => simp [intOf]; omega
    · obtain rfl : k = l.length := by omega
      have Ho2 : Hid (Own 5 w.heap.size wr u9 g) := ho
      have Hb2 : Hid (Below w.heap.size w wr) := hb
      clear ho hb
      go_wp2
      go_ret3
      exact ⟨_, g, x, c, rfl, Ho2.out, Hb2.out, HI.out, hc⟩

end Go.Proofs.YtemgaoikngebeaaDoor
