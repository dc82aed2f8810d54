/-
  Contracts of the document's answer: may, headed.
-/
import Derived.Test.YtemgaoikngebeaaDoorB4
namespace Go.Proofs.YtemgaoikngebeaaDoor
open Go.RowKit

theorem hdOk_eq (h d : List UInt8) : hdOk h d = (decide (1 ≤ h.length) && (decide (h.length ≤ 20) && decide (d.length ≤ 80)) && h.all hc && d.all (fun c => decide (c.toNat ≤ 31))) := by
  rw [hdOk, headOk_eq, dataOk]
  cases decide (1 ≤ h.length) <;> cases decide (h.length ≤ 20) <;> cases decide (d.length ≤ 80) <;> cases h.all hc <;> simp

set_option maxHeartbeats 1000000 in
theorem may_len (w : World) (s : ByteArray) (ao : Option Addr) (n cap : Nat) (hn : n ≤ 100000) (hs : s.size ≤ 100000) (h : s.size = 0 ∨ 20 < s.size ∨ 80 < n) :
    Calls Tryd.prog 29 #[.string s, .slice ao n cap] w fun e w' => e = .returned (.bool false) ∧ w' = w := by
  by_cases h0 : s.size = 0
  · clear h
    go_enter Tryd.func29, Tryd.ntmps29
    go_wp2
    go_ret
    exact ⟨rfl, rfl⟩
  · by_cases h1 : 20 < s.size
    · clear h
      go_enter Tryd.func29, Tryd.ntmps29
      go_wp2
      go_ret
      exact ⟨rfl, rfl⟩
    · have h2 : 80 < n := by omega
      have h3 : 1 ≤ s.size := by omega
      clear h h0
      go_enter Tryd.func29, Tryd.ntmps29
      go_wp2
      go_ret
      exact ⟨rfl, rfl⟩

set_option maxHeartbeats 1000000 in
theorem may_any (w : World) (s : ByteArray) (hs : s.size ≤ 100000) (B : Nat) (v : Value) (l : List UInt8) (h : Rd B w v l) (hl : l.length ≤ 100000) :
    Calls Tryd.prog 29 #[.string s, v] w fun e w' => e = .returned (.bool (hdOk (bl s) l)) ∧ w' = w := by
  have hrd : Hid (Rd B w v l) := h
  obtain ⟨ao, cap, rfl⟩ := h.len
  clear h
  by_cases hbad : s.size = 0 ∨ 20 < s.size ∨ 80 < l.length
  · have e : hdOk (bl s) l = false := by
      rw [hdOk_eq, bl_length]
      rcases hbad with h | h | h
      · simp [h]
      · rw [show decide (s.size ≤ 20) = false by simp; omega]; simp
      · rw [show decide (l.length ≤ 80) = false by simp; omega]; simp
    rw [e]
    exact may_len w s ao _ cap hl hs hbad
  · have h1 : 1 ≤ s.size := by omega
    have h2 : s.size ≤ 20 := by omega
    have h3 : l.length ≤ 80 := by omega
    have HE : Hid (hdOk (bl s) l = ((bl s).all hc && l.all (fun c => decide (c.toNat ≤ 31)))) := by
      show _ = _
      rw [hdOk_eq, bl_length]
      simp [h1, h2, h3]
    clear hbad
    go_enter Tryd.func29, Tryd.ntmps29
    go_wp2
    go_loop [5] (fun i => ∃ k : Nat, k ≤ s.size ∧ i = .int .i64 k ∧ Hid (((bl s).take k).all hc = true)) (fun i => s.size - (intOf i).toNat)
    case atStart => exact ⟨0, by omega, rfl, rfl⟩
    case round =>
      obtain ⟨k, hk, rfl, HA⟩ := hrel
      by_cases hlt : k < s.size
      · have hb : k < (bl s).length := by rw [bl_length]; exact hlt
        have hix := fun w => run_at s k hlt _ rfl w (k : Int) rfl
        have HS : Hid (((bl s).take (k + 1)).all hc = (((bl s).take k).all hc && hc (bl s)[k])) := all_take_succ hc _ k hb
        have HF : Hid (hc (bl s)[k] = false → hdOk (bl s) l = false) := by
          show _ → _
          intro h; rw [HE.out, all_false_of hc _ k hb h]; simp
        have HC : Hid (hc (bl s)[k] = (decide (97 ≤ (bl s)[k].toNat) && decide ((bl s)[k].toNat ≤ 122))) := rfl
        generalize hc (bl s)[k] = p at HS HF HC
        generalize (bl s)[k].toNat = c at hix HC
        clear hb
        by_cases h1 : c < 97
        · have d1 : decide ((c : Int) < 97) = true := by simp; omega
          have HP : Hid (hdOk (bl s) l = false) := HF.out (by rw [HC.out]; simp; omega)
          clear h1 HF HC
          go_wp2
          go_ret
          rw [HP.out]; exact ⟨rfl, rfl⟩
        · by_cases h2 : 122 < c
          · have d1 : decide ((c : Int) < 97) = false := by simp; omega
            have d2 : decide ((c : Int) > 122) = true := by simp; omega
            have HP : Hid (hdOk (bl s) l = false) := HF.out (by rw [HC.out]; simp; omega)
            clear h1 h2 HF HC
            go_wp2
            go_ret
            rw [HP.out]; exact ⟨rfl, rfl⟩
          · have d1 : decide ((c : Int) < 97) = false := by simp; omega
            have d2 : decide ((c : Int) > 122) = false := by simp; omega
            have HP : Hid (((bl s).take (k + 1)).all hc = true) := by show _ = _; rw [HS.out, HA.out, HC.out]; simp; omega
            clear h1 h2 HF HC
            go_wp2
            go_round
            case rel => exact ⟨k + 1, by omega, by go_num, HP.out⟩
            case measure => simp [intOf]; omega
      · have HE2 : Hid (hdOk (bl s) l = l.all (fun c => decide (c.toNat ≤ 31))) := by
          have := HA.out
          rw [List.take_of_length_le (by rw [bl_length]; omega)] at this
          show _ = _
          rw [HE.out, this]; simp
        clear HE
        go_wp2
        go_loop [6] (fun i => ∃ k : Nat, k ≤ l.length ∧ i = .int .i64 k ∧ Hid ((l.take k).all (fun c => decide (c.toNat ≤ 31)) = true)) (fun i => l.length - (intOf i).toNat)
        case atStart => exact ⟨0, by omega, rfl, rfl⟩
        case round =>
          obtain ⟨k, hk, rfl, HA⟩ := hrel
          by_cases hlt : k < l.length
          · obtain ⟨b0, off, cap', ev, hcap, _, hc⟩ := hrd.out.at (by omega)
            simp only [Value.slice.injEq] at ev
            obtain ⟨rfl, _, rfl⟩ := ev
            have hck := hc k hlt
            have HS : Hid ((l.take (k + 1)).all (fun c => decide (c.toNat ≤ 31)) = ((l.take k).all (fun c => decide (c.toNat ≤ 31)) && decide (l[k].toNat ≤ 31))) := all_take_succ _ _ k hlt
            have HF : Hid (decide (l[k].toNat ≤ 31) = false → hdOk (bl s) l = false) := by
              show _ → _
              intro h; rw [HE2.out]; exact all_false_of _ _ k hlt h
            generalize l[k].toNat = c at hck HS HF
            clear hc
            by_cases h1 : 31 < c
            · have d1 : decide ((c : Int) > 31) = true := by simp; omega
              have HP : Hid (hdOk (bl s) l = false) := HF.out (by simp; omega)
              clear h1 HF
              go_wp2
              go_ret
              rw [HP.out]; exact ⟨rfl, rfl⟩
            · have d1 : decide ((c : Int) > 31) = false := by simp; omega
              have HP : Hid ((l.take (k + 1)).all (fun c => decide (c.toNat ≤ 31)) = true) := by show _ = _; rw [HS.out, HA.out]; simp; omega
              clear h1 HF
              go_wp2
              go_round
              case rel => exact ⟨k + 1, by omega, by go_num, HP.out⟩
              case measure => simp [intOf]; omega
          · have HP : Hid (hdOk (bl s) l = true) := by
              have := HA.out
              rw [List.take_of_length_le (by omega)] at this
              show _ = _
              rw [HE2.out, this]
            go_wp2
            go_ret
            rw [HP.out]; exact ⟨rfl, rfl⟩

set_option maxHeartbeats 2000000 in
theorem headed_any (w : World) (s : ByteArray) (hs : s.size ≤ 100000) :
    Calls Tryd.prog 30 #[.string s] w fun e w' => ∃ v', e = .returned v' ∧ Own 5 w.heap.size w' v' (hrow (bl s)) ∧ Below w.heap.size w w' := by
  go_enter Tryd.func30, Tryd.ntmps30
  go_wp2
  go_loopw [3, 4] (fun r i wr => ∃ k : Nat, k ≤ s.size ∧ i = .int .i64 k ∧ Own 5 w.heap.size wr r (((bl s).take k).map hi3) ∧ Below w.heap.size w wr) (fun _ i _ => s.size - (intOf i).toNat)
  case atStart => exact ⟨0, by omega, rfl, Own.empty 5 w.heap.size w (Nat.le_refl _), (Below.refl _ _).alloc (Nat.le_refl _) _⟩
  case round =>
    obtain ⟨k, hk, rfl, ho, hb⟩ := hrel
    by_cases hlt : k < s.size
    · have hbl : k < (bl s).length := by rw [bl_length]; exact hlt
      have hix := fun w => run_at s k hlt _ rfl w (k : Int) rfl
      have HS : Hid (((bl s).take (k + 1)).map hi3 = ((bl s).take k).map hi3 ++ [hi3 (bl s)[k]]) := map_take_succ hi3 _ k hbl
      have HI : Hid (((bl s)[k].toNat : Int) / 32 = ((hi3 (bl s)[k]).toNat : Int)) := hi3_int _
      have hc := (bl s)[k].toNat_lt
      have hlen : (((bl s).take k).map hi3).length ≤ 100000 := by simp [bl_length]; omega
      generalize hi3 (bl s)[k] = d at HS HI
      generalize (bl s)[k].toNat = c at hix HI hc
      clear hbl
      go_wp2_with (at_builtin; refine wpList_append_rd Tryd.bt rfl (.tmp 13) (.tmp 18) rfl w.heap.size _ _ _ _ [d] rfl (ho.alloc _) rfl (Rd.one 5 _ _ _ HI.out) (by show _ + 1 ≤ _; omega) (by have := hb.size; simp; omega) ?_; intro v2 w2 ho2 hb2)
      go_roundw
      case rel => exact ⟨k + 1, by omega, by go_num, by rw [HS.out]; exact ho2, hb.trans (((Below.refl _ _).alloc (by have := hb.size; omega) _).trans hb2)⟩
      case measure => simp [intOf]; omega
    · obtain rfl : k = s.size := by omega
      rw [List.take_of_length_le (by rw [bl_length]; omega)] at ho
      have Ho1 : Hid (Own 5 w.heap.size wr u3 ((bl s).map hi3)) := ho
      have Hb1 : Hid (Below w.heap.size w wr) := hb
      clear ho hb
      go_wp2_with (at_builtin; refine wpList_append_rd Tryd.bt rfl (.tmp 20) (.tmp 21) rfl w.heap.size _ _ _ _ [0] rfl (Ho1.out.alloc _) rfl (Rd.one 5 _ _ _ rfl) (by simp [bl_length]; omega) (by have := Hb1.out.size; simp; omega) ?_; intro v2 w2 ho2 hb2)
      have Ho2 : Hid (Own 5 w.heap.size w2 v2 ((bl s).map hi3 ++ [0])) := ho2
      have Hb2 : Hid (Below w.heap.size w w2) := Hb1.out.trans (((Below.refl _ _).alloc (by have := Hb1.out.size; omega) _).trans hb2)
      clear ho2 hb2 Ho1 Hb1
      go_loopw [3, 5] (fun r i wr => ∃ k : Nat, k ≤ s.size ∧ i = .int .i64 k ∧ Own 5 w.heap.size wr r ((bl s).map hi3 ++ [0] ++ ((bl s).take k).map lo5) ∧ Below w.heap.size w wr) (fun _ i _ => s.size - (intOf i).toNat)
      case atStart => exact ⟨0, by omega, rfl, by simpa using Ho2.out, Hb2.out⟩
      case round =>
        obtain ⟨k, hk, rfl, ho, hb⟩ := hrel
        by_cases hlt : k < s.size
        · have hbl : k < (bl s).length := by rw [bl_length]; exact hlt
          have hix := fun w => run_at s k hlt _ rfl w (k : Int) rfl
          have HS : Hid (((bl s).take (k + 1)).map lo5 = ((bl s).take k).map lo5 ++ [lo5 (bl s)[k]]) := map_take_succ lo5 _ k hbl
          have HI : Hid (((bl s)[k].toNat : Int) % 32 = ((lo5 (bl s)[k]).toNat : Int)) := lo5_int _
          have hc := (bl s)[k].toNat_lt
          have hlen : ((bl s).map hi3 ++ [0] ++ ((bl s).take k).map lo5).length ≤ 300000 := by simp [bl_length]; omega
          generalize lo5 (bl s)[k] = d at HS HI
          generalize (bl s)[k].toNat = c at hix HI hc
          clear hbl
          go_wp2_with (at_builtin; refine wpList_append_rd Tryd.bt rfl (.tmp 29) (.tmp 34) rfl w.heap.size _ _ _ _ [d] rfl (ho.alloc _) rfl (Rd.one 5 _ _ _ HI.out) (by show _ + 1 ≤ _; omega) (by have := hb.size; simp; omega) ?_; intro v2 w2 ho2 hb2)
          go_roundw
          case rel => exact ⟨k + 1, by omega, by go_num, by rw [HS.out, ← List.append_assoc]; exact ho2, hb.trans (((Below.refl _ _).alloc (by have := hb.size; omega) _).trans hb2)⟩
          case measure => simp [intOf]; omega
        · obtain rfl : k = s.size := by omega
          rw [List.take_of_length_le (by rw [bl_length]; omega), ← hrow_eq] at ho
          go_wp2
          go_ret
          exact ⟨_, rfl, ho, hb⟩
end Go.Proofs.YtemgaoikngebeaaDoor
