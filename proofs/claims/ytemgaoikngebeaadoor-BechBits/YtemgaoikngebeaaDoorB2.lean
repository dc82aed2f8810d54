/-
  Contracts of package bech: heads, data, letters.
-/
import Derived.Test.YtemgaoikngebeaaDoorB1
import Derived.Test.YtemgaoikngebeaaDoorFill
namespace Go.Proofs.YtemgaoikngebeaaDoor
open Go.RowKit

def hc (c : UInt8) : Bool := decide (97 ≤ c.toNat) && decide (c.toNat ≤ 122)
theorem headOk_eq (h : List UInt8) : headOk h = (decide (1 ≤ h.length) && (decide (h.length ≤ 20) && h.all hc)) := rfl
theorem all_take_succ (p : UInt8 → Bool) (l : List UInt8) (k : Nat) (h : k < l.length) : (l.take (k + 1)).all p = ((l.take k).all p && p l[k]) := by
  rw [List.take_succ_eq_append_getElem h, List.all_append]; simp
theorem all_false_of (p : UInt8 → Bool) (l : List UInt8) (k : Nat) (h : k < l.length) (hp : p l[k] = false) : l.all p = false := by
  rw [List.all_eq_false]
  exact ⟨l[k], List.getElem_mem h, by simp [hp]⟩

set_option maxHeartbeats 1000000 in
theorem isHead_any (w : World) (s : ByteArray) (hs : s.size ≤ 1000000) :
    Calls Tryd.prog 25 #[.string s] w fun e w' => e = .returned (.bool (headOk (bl s))) ∧ w' = w := by
  go_enter Tryd.func25, Tryd.ntmps25
  go_wp2
  go_loop [6] (fun i => ∃ k : Nat, k ≤ s.size ∧ i = .int .i64 k ∧ Hid (((bl s).take k).all hc = true)) (fun i => s.size - (intOf i).toNat)
  case atStart => exact ⟨0, by omega, rfl, rfl⟩
  case round =>
    obtain ⟨k, hk, rfl, HA⟩ := hrel
    by_cases hlt : k < s.size
    · have hb : k < (bl s).length := by rw [bl_length]; exact hlt
      have hix := fun w => run_at s k hlt _ rfl w (k : Int) rfl
      have HS : Hid (((bl s).take (k + 1)).all hc = (((bl s).take k).all hc && hc (bl s)[k])) := all_take_succ hc _ k hb
      have HF : Hid (hc (bl s)[k] = false → headOk (bl s) = false) := by
        show _ → _
        intro h; rw [headOk_eq, all_false_of hc _ k hb h]; simp
      have HC : Hid (hc (bl s)[k] = (decide (97 ≤ (bl s)[k].toNat) && decide ((bl s)[k].toNat ≤ 122))) := rfl
      generalize hc (bl s)[k] = p at HS HF HC
      generalize (bl s)[k].toNat = c at hix HC
      clear hb
      by_cases h1 : c < 97
      · have d1 : decide ((c : Int) < 97) = true := by simp; omega
        have HP : Hid (headOk (bl s) = false) := HF.out (by rw [HC.out]; simp; omega)
        clear h1 HF HC
        go_wp2
        go_ret
        rw [HP.out]; exact ⟨rfl, rfl⟩
      · by_cases h2 : 122 < c
        · have d1 : decide ((c : Int) < 97) = false := by simp; omega
          have d2 : decide ((c : Int) > 122) = true := by simp; omega
          have HP : Hid (headOk (bl s) = false) := HF.out (by rw [HC.out]; simp; omega)
          clear h1 h2 HF HC
          go_wp2
          go_ret
          rw [HP.out]; exact ⟨rfl, rfl⟩
        · have d1 : decide ((c : Int) < 97) = false := by simp; omega
          have d2 : decide ((c : Int) > 122) = false := by simp; omega
          have HP : Hid (((bl s).take (k + 1)).all hc = true) := by show _ = _; rw [HS.out, HA.out, HC.out]; simp; omega
          clear h1 h2 HF HC
          go_wp2
          go_round
          case rel => exact ⟨k + 1, by omega, by go_num, HP.out⟩
          case measure => simp [intOf]; omega
    · have HE : Hid (headOk (bl s) = (decide (1 ≤ s.size) && decide (s.size ≤ 20))) := by
        have := HA.out
        rw [List.take_of_length_le (by rw [bl_length]; omega)] at this
        show _ = _
        rw [headOk_eq, this, bl_length]; simp
      by_cases h0 : s.size = 0
      · have HP : Hid (headOk (bl s) = false) := by show _ = _; rw [HE.out, h0]; rfl
        go_wp2
        go_ret
        rw [HP.out]; exact ⟨rfl, rfl⟩
      · have h1 : 0 < s.size := by omega
        have HP : Hid (headOk (bl s) = decide ((s.size : Int) ≤ 20)) := by
          show _ = _
          rw [HE.out, Bool.eq_iff_iff]; simp; omega
        clear h0
        go_wp2
        go_ret
        rw [HP.out]; exact ⟨rfl, rfl⟩

set_option maxHeartbeats 1000000 in
theorem isData_any (w : World) (B : Nat) (v : Value) (l : List UInt8) (h : Rd B w v l) (hl : l.length ≤ 1000000) :
    Calls Tryd.prog 26 #[v] w fun e w' => e = .returned (.bool (dataOk l)) ∧ w' = w := by
  have hrd : Hid (Rd B w v l) := h
  obtain ⟨ao, cap, rfl⟩ := h.len
  clear h
  go_enter Tryd.func26, Tryd.ntmps26
  go_wp2
  go_loop [7] (fun i => ∃ k : Nat, k ≤ l.length ∧ i = .int .i64 k ∧ Hid ((l.take k).all (fun c => decide (c.toNat ≤ 31)) = true)) (fun i => l.length - (intOf i).toNat)
  case atStart => exact ⟨0, by omega, rfl, rfl⟩
  case round =>
    obtain ⟨k, hk, rfl, HA⟩ := hrel
    by_cases hlt : k < l.length
    · obtain ⟨b0, off, cap', ev, hcap, _, hc⟩ := hrd.out.at (by omega)
      simp only [Value.slice.injEq] at ev
      obtain ⟨rfl, _, rfl⟩ := ev
      have hck := hc k hlt
      have HS : Hid ((l.take (k + 1)).all (fun c => decide (c.toNat ≤ 31)) = ((l.take k).all (fun c => decide (c.toNat ≤ 31)) && decide (l[k].toNat ≤ 31))) := all_take_succ _ _ k hlt
      have HF : Hid (decide (l[k].toNat ≤ 31) = false → dataOk l = false) := by
        show _ → _
        intro h; rw [dataOk, all_false_of _ _ k hlt h]; simp
      generalize l[k].toNat = c at hck HS HF
      clear hc
      by_cases h1 : 31 < c
      · have d1 : decide ((c : Int) > 31) = true := by simp; omega
        have HP : Hid (dataOk l = false) := HF.out (by simp; omega)
        clear h1 HF
        go_wp2
        go_ret
        rw [HP.out]; exact ⟨rfl, rfl⟩
      · have d1 : decide ((c : Int) > 31) = false := by simp; omega
        have HP : Hid ((l.take (k + 1)).all (fun c => decide (c.toNat ≤ 31)) = true) := by show _ = _; rw [HS.out, HA.out]; simp; omega
        clear h1 HF
        go_wp2
        go_round
        case rel => exact ⟨k + 1, by omega, by go_num, HP.out⟩
        case measure => simp [intOf]; omega
    · have HP : Hid (dataOk l = decide ((l.length : Int) ≤ 80)) := by
        have := HA.out
        rw [List.take_of_length_le (by omega)] at this
        show _ = _
        rw [dataOk, this, Bool.eq_iff_iff]; simp; omega
      go_wp2
      go_ret
      rw [HP.out]; exact ⟨rfl, rfl⟩

/-- The constant text of letters. -/
def letsS : ByteArray := ⟨#[113, 112, 122, 114, 121, 57, 120, 56, 103, 102, 50, 116, 118, 100, 119, 48, 115, 51, 106, 110, 53, 52, 107, 104, 99, 101, 54, 109, 117, 97, 55, 108]⟩
theorem letsS_at (k : Nat) (h : k < 32) : letsS[k]'(by show k < 32; exact h) = letA (UInt8.ofNat k) := by
  have : ∀ k : Fin 32, letsS[k.val]'(by show k.val < 32; exact k.isLt) = letA (UInt8.ofNat k.val) := by decide +kernel
  exact this ⟨k, h⟩
theorem run_let (w : World) (c : UInt8) (q : IntKind) (h : c.toNat < 32) (i : Int) (hi : i = (c.toNat : Int)) : (Instr.index 9 (.string ⟨#[113, 112, 122, 114, 121, 57, 120, 56, 103, 102, 50, 116, 118, 100, 119, 48, 115, 51, 106, 110, 53, 52, 107, 104, 99, 101, 54, 109, 117, 97, 55, 108]⟩) (.int q i)).run Tryd.prog w = .ok (.int .u8 (letA c).toNat) w := by
  subst hi
  have e : (letsS[c.toNat]? : Option UInt8) = some (letA c) := by
    have := letsS_at c.toNat h
    rw [UInt8.ofNat_toNat] at this
    rw [← this]; exact getElem?_pos letsS c.toNat (by show c.toNat < 32; exact h)
  have hu : Tryd.prog.underlying 9 = some .string := by kernel_rfl
  unfold letsS at e
  simp [Instr.index, asIntOf, run_underlying hu, e]

theorem fillStep (l : List UInt8) (f : UInt8 → UInt8) (k : Nat) (hk : k < l.length) :
    ((l.take k).map f ++ (List.replicate l.length (0 : UInt8)).drop k).set k (f l[k]) = (l.take (k + 1)).map f ++ (List.replicate l.length (0 : UInt8)).drop (k + 1) := by
  rw [set_here (List.replicate l.length 0) k (f l[k]) ((l.take k).map f) (by simp; omega) (by simpa using hk), List.take_succ_eq_append_getElem hk, List.map_append, List.map_cons, List.map_nil]

set_option maxHeartbeats 1000000 in
theorem write_any (w : World) (B : Nat) (v : Value) (l : List UInt8) (h : Rd B w v l) (hl : l.length ≤ 1000000) (h32 : ∀ c ∈ l, c.toNat < 32) :
    Calls Tryd.prog 27 #[v] w fun e w' => e = .returned (.string ⟨(l.map letA).toArray⟩) ∧ Below w.heap.size w w' := by
  have hrd : Hid (Rd B w v l) := h
  have H32 : Hid (∀ c ∈ l, c.toNat < 32) := h32
  obtain ⟨ao, cap, rfl⟩ := h.len
  clear h h32
  go_enter Tryd.func27, Tryd.ntmps27
  go_wp2_with (at_make; refine wpList_make_nums Tryd.bt rfl _ _ rfl w.heap.size _ _ l.length rfl rfl (by omega) (Nat.le_refl _) ?_; intro g w1 ho1 hb1 _ hg1)
  go_loopw [11] (fun i wr => ∃ k : Nat, k ≤ l.length ∧ i = .int .i64 k ∧ Own 5 w.heap.size wr (.slice (some ⟨g, 0, none⟩) l.length l.length) ((l.take k).map letA ++ (List.replicate l.length 0).drop k) ∧ Below w.heap.size w wr) (fun i _ => l.length - (intOf i).toNat)
  case atStart => exact ⟨0, by omega, rfl, by simpa using ho1, hb1⟩
  case round =>
    obtain ⟨k, hk, rfl, ho, hb⟩ := hrel
    have Ho : Hid (Own 5 w.heap.size wr (.slice (some ⟨g, 0, none⟩) l.length l.length) ((l.take k).map letA ++ (List.replicate l.length 0).drop k)) := ho
    have Hb : Hid (Below w.heap.size w wr) := hb
    by_cases hlt : k < l.length
    · obtain ⟨b0, off, cap', ev, hcap, _, hc⟩ := ((hrd.out.self).below hb).at (by omega)
      simp only [Value.slice.injEq] at ev
      obtain ⟨rfl, _, rfl⟩ := ev
      have hck := hc k hlt
      have hlet := fun w => run_let w l[k] .u8 (H32.out _ (List.getElem_mem hlt)) _ rfl
      have hlen : ((l.take k).map letA ++ (List.replicate l.length (0 : UInt8)).drop k).length = l.length := by simp; omega
      have hwas := Own.was ho hlen k (by rw [hlen]; exact hlt)
      obtain ⟨hwc, hwf⟩ := hwas
      generalize (((l.take k).map letA ++ (List.replicate l.length (0 : UInt8)).drop k)[k]'(by rw [hlen]; exact hlt)).toNat = old at hwc
      have HS := fillStep l letA k hlt
      have HN : Hid (Own 5 w.heap.size (wr.setCell ⟨g, k, none⟩ (.int .u8 (letA l[k]).toNat)) (.slice (some ⟨g, 0, none⟩) l.length l.length) ((l.take (k + 1)).map letA ++ (List.replicate l.length 0).drop (k + 1)) ∧ Below w.heap.size wr (wr.setCell ⟨g, k, none⟩ (.int .u8 (letA l[k]).toNat))) := by
        have := Own.store ho k (letA l[k]) _ rfl
        rw [HS] at this
        exact this
      generalize l[k].toNat = c at hck hlet
      generalize (letA l[k]).toNat = d at hlet HN
      clear hc ho hb hlen HS
      go_wp2
      go_roundw
      case rel => exact ⟨k + 1, by omega, by go_num, HN.out.1, Hb.out.trans HN.out.2⟩
      case measure => simp [intOf]; omega
    · obtain rfl : k = l.length := by omega
      have hcv := run_conv_rd Tryd.bt 9 (by kernel_rfl) wr _ _ _ ho.rd
      simp only [List.take_length, List.drop_replicate, Nat.sub_self, List.replicate_zero, List.append_nil] at hcv
      clear ho
      go_wp2
      go_ret
      exact ⟨rfl, hb⟩
end Go.Proofs.YtemgaoikngebeaaDoor
