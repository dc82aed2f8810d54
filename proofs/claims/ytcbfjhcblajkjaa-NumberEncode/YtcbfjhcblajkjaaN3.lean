/-
  Contracts of package number and the document's: Flag, Truth; of bytes.Equal, and of number's read.
-/
import Derived.Test.YtcbfjhcblajkjaaN2
import Derived.Lib.Bytealg
namespace Go.Proofs.Ytcbfjhcblajkjaa
open Go.RowKit

/-- A truth, written. -/
def flg (v : Bool) : List UInt8 := if v then [1] else []

set_option maxHeartbeats 400000 in
theorem flag_any (w : World) (v : Bool) :
    Calls Try.prog 11 #[.bool v] w fun e w' => ∃ v', e = .returned v' ∧ Rs w' v' (flg v) ∧ Below w.heap.size w w' := by
  cases v with
  | true =>
    go_enter Try.func11, Try.ntmps11
    go_wp2
    go_ret
    exact ⟨_, rfl, (Rd.one 5 w 1 _ b1).rs, (Below.refl _ _).alloc (Nat.le_refl _) _⟩
  | false =>
    go_enter Try.func11, Try.ntmps11
    go_wp2
    go_ret
    exact ⟨_, rfl, Rd.nil _ _, Below.refl _ _⟩

set_option maxHeartbeats 400000 in
theorem rflag_any (w : World) (v : Bool) :
    Calls Try.prog 12 #[.bool v] w fun e w' => ∃ v', e = .returned v' ∧ Rs w' v' (flg v) ∧ Below w.heap.size w w' := by
  cases v with
  | true =>
    go_enter Try.func12, Try.ntmps12
    go_wp2
    go_ret
    exact ⟨_, rfl, (Rd.one 5 w 1 _ b1).rs, (Below.refl _ _).alloc (Nat.le_refl _) _⟩
  | false =>
    go_enter Try.func12, Try.ntmps12
    go_wp2
    go_ret
    exact ⟨_, rfl, (Own.empty 5 w.heap.size w (Nat.le_refl _)).rd.rs, (Below.refl _ _).alloc (Nat.le_refl _) _⟩

theorem equal_any (w : World) (A B : Nat) (u v : Value) (l m : List UInt8) (hu : Rd A w u l) (hv : Rd B w v m) :
    Calls Try.prog 19 #[u, v] w fun e w' => e = .returned (.bool (decide (l = m))) ∧ w' = w := by
  have HD : Hid (((⟨l.toArray⟩ : ByteArray).toList == (⟨m.toArray⟩ : ByteArray).toList) = decide (l = m)) := by
    show _ = _
    rw [Lib.toList_data, Lib.toList_data, Bool.eq_iff_iff]
    simp
  have c1 := run_conv_rd Try.bt 9 (by kernel_rfl) w _ _ _ hu
  have c2 := run_conv_rd Try.bt 9 (by kernel_rfl) w _ _ _ hv
  clear hu hv
  generalize (⟨l.toArray⟩ : ByteArray) = L at c1 HD
  generalize (⟨m.toArray⟩ : ByteArray) = M at c2 HD
  go_enter Try.func19, Try.ntmps19
  go_wp2
  go_ret
  rw [← HD.out]
  exact ⟨rfl, rfl⟩

theorem hit_at (l : List UInt8) (k : Nat) (hk : k < l.length) : hit l k = (decide (l[k].toNat ≠ 0) && !(decide (k + 1 = l.length) && decide (l[k].toNat = 128))) := by
  have e : l.getD k 0 = l[k] := by simp [hk]
  have e0 : ∀ c : UInt8, decide (c ≠ 0) = decide (c.toNat ≠ 0) := by
    intro c; rw [decide_eq_decide]; exact not_congr ⟨fun h => by rw [h]; rfl, fun h => UInt8.toNat_inj.1 h⟩
  have e1 : ∀ c : UInt8, decide (c = 128) = decide (c.toNat = 128) := by
    intro c; rw [decide_eq_decide]; exact ⟨fun h => by rw [h]; rfl, fun h => UInt8.toNat_inj.1 h⟩
  unfold hit
  rw [e, e0, e1]

set_option maxHeartbeats 1000000 in
theorem truth_any (w : World) (B : Nat) (v : Value) (l : List UInt8) (h : Rd B w v l) (hl : l.length ≤ 1000000) :
    Calls Try.prog 15 #[v] w fun e w' => e = .returned (.bool (trN l)) ∧ Below w.heap.size w w' := by
  have hrd : Hid (Rd B w v l) := h
  obtain ⟨ao, cap, rfl⟩ := h.len
  clear h
  go_enter Try.func15, Try.ntmps15
  go_wp2
  go_loop [11] (fun i => ∃ k : Nat, k ≤ l.length ∧ i = .int .i64 k ∧ Hid (∀ j, j < k → hit l j = false)) (fun i => l.length - (intOf i).toNat)
  case atStart => exact ⟨0, by omega, rfl, fun j hj => by omega⟩
  case round =>
    obtain ⟨k, hk, rfl, HA⟩ := hrel
    by_cases hlt : k < l.length
    · obtain ⟨b0, off, cap', ev, hcap, _, hc⟩ := hrd.out.at (by omega)
      simp only [Value.slice.injEq] at ev
      obtain ⟨rfl, _, rfl⟩ := ev
      have hck := hc k hlt
      have hh := hit_at l k hlt
      have HT : Hid (hit l k = true → trN l = true) := fun h => trN_true k hlt h
      have HF : Hid (hit l k = false → ∀ j, j < k + 1 → hit l j = false) := fun h j hj => by
        by_cases e : j = k
        · subst e; exact h
        · exact HA.out j (by omega)
      generalize l[k].toNat = c at hck hh
      clear hc HA
      by_cases h0 : c = 0
      · subst h0
        have HG := HF.out (by rw [hh]; rfl)
        have HH : Hid (∀ j, j < k + 1 → hit l j = false) := HG
        clear HF HT hh HG
        go_wp2
        go_round
        case rel => exact ⟨k + 1, by omega, by go_num, HH.out⟩
        case measure => simp [intOf]; omega
      · have d0 : ((c : Int) == 0) = false := by simp; omega
        have d0' : ((c : Int) != 0) = true := by simp; omega
        by_cases h1 : c = 128
        · subst h1
          by_cases h2 : k + 1 = l.length
          · have HG := HF.out (by rw [hh]; simp [h2])
            have HH : Hid (∀ j, j < k + 1 → hit l j = false) := HG
            have d2 : ((k : Int) == (l.length : Int) - 1) = true := by simp; omega
            clear HF HT hh HG h2
            go_wp2
            go_round
            case rel => exact ⟨k + 1, by omega, by go_num, HH.out⟩
            case measure => simp [intOf]; omega
          · have HG : Hid (trN l = true) := HT.out (by rw [hh]; simp [h2])
            have d2 : ((k : Int) == (l.length : Int) - 1) = false := by simp; omega
            clear HF HT hh h2
            go_wp2
            go_ret
            rw [HG.out]; exact ⟨rfl, Below.refl _ _⟩
        · have HG : Hid (trN l = true) := HT.out (by rw [hh]; simp [h0, h1])
          have d1 : ((c : Int) == 128) = false := by simp; omega
          have d1' : ((c : Int) != 128) = true := by simp; omega
          clear HF HT hh h0 h1
          go_wp2
          go_ret
          rw [HG.out]; exact ⟨rfl, Below.refl _ _⟩
    · have HG : Hid (trN l = false) := trN_false fun i hi => HA.out i (by omega)
      go_wp2
      go_ret
      rw [HG.out]; exact ⟨rfl, Below.refl _ _⟩

set_option maxHeartbeats 1000000 in
theorem rtruth_any (w : World) (B : Nat) (v : Value) (l : List UInt8) (h : Rd B w v l) (hl : l.length ≤ 1000000) :
    Calls Try.prog 16 #[v] w fun e w' => e = .returned (.bool (trN l)) ∧ Below w.heap.size w w' := by
  have hrd : Hid (Rd B w v l) := h
  obtain ⟨ao, cap, rfl⟩ := h.len
  clear h
  go_enter Try.func16, Try.ntmps16
  go_wp2
  go_loop [3] (fun i => ∃ k : Nat, k ≤ l.length ∧ i = .int .i64 k ∧ Hid (∀ j, j < k → hit l j = false)) (fun i => l.length - (intOf i).toNat)
  case atStart => exact ⟨0, by omega, rfl, fun j hj => by omega⟩
  case round =>
    obtain ⟨k, hk, rfl, HA⟩ := hrel
    by_cases hlt : k < l.length
    · obtain ⟨b0, off, cap', ev, hcap, _, hc⟩ := hrd.out.at (by omega)
      simp only [Value.slice.injEq] at ev
      obtain ⟨rfl, _, rfl⟩ := ev
      have hck := hc k hlt
      have hh := hit_at l k hlt
      have HT : Hid (hit l k = true → trN l = true) := fun h => trN_true k hlt h
      have HF : Hid (hit l k = false → ∀ j, j < k + 1 → hit l j = false) := fun h j hj => by
        by_cases e : j = k
        · subst e; exact h
        · exact HA.out j (by omega)
      generalize l[k].toNat = c at hck hh
      clear hc HA
      by_cases h0 : c = 0
      · subst h0
        have HG := HF.out (by rw [hh]; rfl)
        have HH : Hid (∀ j, j < k + 1 → hit l j = false) := HG
        clear HF HT hh HG
        go_wp2
        go_round
        case rel => exact ⟨k + 1, by omega, by go_num, HH.out⟩
        case measure => simp [intOf]; omega
      · have d0 : ((c : Int) == 0) = false := by simp; omega
        have d0' : ((c : Int) != 0) = true := by simp; omega
        by_cases h2 : k + 1 = l.length
        · have d2 : ((k : Int) == (l.length : Int) - 1) = true := by simp; omega
          by_cases h1 : c = 128
          · subst h1
            have HG := HF.out (by rw [hh]; simp [h2])
            have HH : Hid (∀ j, j < k + 1 → hit l j = false) := HG
            clear HF HT hh HG h2
            go_wp2
            go_round
            case rel => exact ⟨k + 1, by omega, by go_num, HH.out⟩
            case measure => simp [intOf]; omega
          · have HG : Hid (trN l = true) := HT.out (by rw [hh]; simp [h0, h1])
            have d1 : ((c : Int) == 128) = false := by simp; omega
            have d1' : ((c : Int) != 128) = true := by simp; omega
            clear HF HT hh h0 h1 h2
            go_wp2
            go_ret
            rw [HG.out]; exact ⟨rfl, Below.refl _ _⟩
        · have HG : Hid (trN l = true) := HT.out (by rw [hh]; simp [h2, h0])
          have d2 : ((k : Int) == (l.length : Int) - 1) = false := by simp; omega
          clear HF HT hh h2 h0
          go_wp2
          go_ret
          rw [HG.out]; exact ⟨rfl, Below.refl _ _⟩
    · have HG : Hid (trN l = false) := trN_false fun i hi => HA.out i (by omega)
      go_wp2
      go_ret
      rw [HG.out]; exact ⟨rfl, Below.refl _ _⟩

/-- The sign's bit, taken away. -/
theorem xor64 (r : List UInt8) (c : UInt8) (h : 128 ≤ c.toNat) (hr : r.length ≤ 7) :
    bits .xor .u64 (num (r ++ [c]) : Int) (IntKind.u64.wrap (128 * 2 ^ (8 * r.length))) = (mag (r ++ [c]) : Int) := by
  have h1 := num_lt (r ++ [c])
  have h2 : 2 ^ (8 * (r ++ [c]).length) ≤ 2 ^ 64 := Nat.pow_le_pow_right (by decide) (by simp; omega)
  have h3 : 2 ^ (8 * r.length) ≤ 2 ^ 56 := Nat.pow_le_pow_right (by decide) (by omega)
  have e : ((128 : Int) * 2 ^ (8 * r.length)) = ((128 * 2 ^ (8 * r.length) : Nat) : Int) := by simp
  rw [e]
  have hx := xor_sign r c h
  generalize 2 ^ (8 * r.length) = p at *
  generalize num (r ++ [c]) = a at *
  generalize 2 ^ (8 * (r ++ [c]).length) = q at *
  simp only [IntKind.wrap_u64]
  rw [show (((128 * p : Nat) : Int) % 18446744073709551616) = ((128 * p : Nat) : Int) from by omega, u64_xor_nat a (128 * p) (by omega) (by omega), hx]

set_option maxRecDepth 100000 in
set_option maxHeartbeats 1000000 in
theorem read_any (w : World) (B : Nat) (v : Value) (l : List UInt8) (h : Rd B w v l) (hl : l.length ≤ 8) :
    Calls Try.prog 18 #[v] w fun e w' => e = .returned (.int .i64 (rdN l)) ∧ w' = w := by
  rcases nil_or_app l with rfl | ⟨r, c, rfl⟩
  · obtain ⟨ao, cap, rfl⟩ := h.len
    clear h
    rw [rdN_nil]
    go_enter Try.func18, Try.ntmps18
    go_wp2
    go_ret
    exact ⟨rfl, rfl⟩
  · obtain ⟨b, off, cap, rfl, hcap, hbB, hc⟩ := h.at (by simp)
    have hrl : r.length ≤ 7 := by simp at hl; omega
    have hlen : (r ++ [c]).length = r.length + 1 := by simp
    rw [hlen] at hcap ⊢
    have hne : ((r.length : Int) + 1 == 0) = false := by simp; omega
    clear h hl
    go_enter Try.func18, Try.ntmps18
    go_wp2
    go_loop [3, 4, 5, 12] (fun n _ _ i => ∃ k : Nat, k ≤ r.length + 1 ∧ i = .int .i64 k ∧ n = .int .u64 (num ((r ++ [c]).take k))) (fun _ _ _ i => r.length + 1 - (intOf i).toNat)
    case atStart => exact ⟨0, by omega, rfl, rfl⟩
    case round =>
      obtain ⟨k, hk, rfl, rfl⟩ := hrel
      by_cases hlt : k < r.length + 1
      · have hck := hc k (by omega)
        have HO : Hid (bits .or .u64 (num ((r ++ [c]).take k) : Int) (IntKind.u64.wrap (IntKind.u64.wrap ((r ++ [c])[k].toNat : Int) * 2 ^ (8 * k))) = (num ((r ++ [c]).take (k + 1)) : Int)) := or64 (r ++ [c]) k (by omega) (by omega)
        clear hc
        go_wp2
        go_round
        case rel => exact ⟨k + 1, by omega, by go_num, by rw [HO.out]⟩
        case measure => simp [intOf]; omega
      · obtain rfl : k = r.length + 1 := by omega
        have hck := hc r.length (by omega)
        simp only [List.getElem_concat_length] at hck
        have ht : (r ++ [c]).take (r.length + 1) = r ++ [c] := List.take_of_length_le (by omega)
        rw [ht]
        have hm := mag_lt_of (r ++ [c]) 7 (by omega)
        simp only [Nat.reduceMul, Nat.reduceAdd, Nat.reducePow] at hm
        by_cases hb : 128 ≤ c.toNat
        · have hand := and_big c hb
          have HX : Hid (bits .xor .u64 (num (r ++ [c]) : Int) (IntKind.u64.wrap (128 * 2 ^ (8 * r.length))) = (mag (r ++ [c]) : Int)) := xor64 r c hb hrl
          have HE : Hid (rdN (r ++ [c]) = wrap64 (-wrap64 (mag (r ++ [c]) : Int))) := by
            show _ = _
            rw [rdN_neg r c hb]; unfold wrap64; omega
          clear hb hc hm ht
          generalize c.toNat = cc at hck hand
          go_wp2
          go_ret
          rw [HE.out, ← HX.out]; exact ⟨rfl, rfl⟩
        · have hand := and_low c (by omega)
          have HE : Hid (rdN (r ++ [c]) = wrap64 (num (r ++ [c]) : Int)) := by
            show _ = _
            have e : num (r ++ [c]) = mag (r ++ [c]) := by rw [num_app, mag_app, Nat.mod_eq_of_lt (by omega)]
            rw [rdN_pos r c (by omega), e]; unfold wrap64; omega
          clear hb hc hm ht
          generalize c.toNat = cc at hck hand
          go_wp2
          go_ret
          rw [HE.out]; exact ⟨rfl, rfl⟩
end Go.Proofs.Ytcbfjhcblajkjaa
