/-
  Contracts: lists that are laid, are alike, are small.
-/
import Derived.Test.YtjobmpfnnfmonaaW9
namespace Go.Proofs.Ytjobmpfnnfmonaa
open Go.RowKit

theorem strsL_le (M : Nat) : ∀ (ls : List (List UInt8)), (∀ x ∈ ls, x.length ≤ M) → (strsL ls).length ≤ ls.length * (M + 9)
  | [], _ => by simp [strsL]
  | x :: ls, h => by
    have h1 := strsL_le M ls (fun y hy => h y (List.mem_cons_of_mem _ hy))
    have h2 := strL_length x
    have h3 := h x (List.mem_cons_self ..)
    rw [strsL_cons, List.length_append, List.length_cons, Nat.add_mul]
    omega

theorem strsL_take_succ (ls : List (List UInt8)) (k : Nat) (h : k < ls.length) : strsL (ls.take (k + 1)) = strsL (ls.take k) ++ strL ls[k] := by
  rw [List.take_succ_eq_append_getElem h, strsL_snoc]

theorem strsL_take_le (ls : List (List UInt8)) (k : Nat) (hn : ls.length ≤ 400) (hx : ∀ x ∈ ls, x.length ≤ 1000) : (strsL (ls.take k)).length ≤ 403600 := by
  have h1 := strsL_le 1000 (ls.take k) (fun x h => hx x (List.mem_of_mem_take h))
  have h2 : (ls.take k).length ≤ 400 := by simp; omega
  have h3 := Nat.mul_le_mul_right 1009 h2
  omega

set_option maxHeartbeats 1000000 in
theorem putList_any (w : World) (B : Nat) (v u : Value) (l : List UInt8) (ls : List (List UInt8)) (h : Rd B w v l) (hu : RsL w u ls) (hl : l.length ≤ 1000) (hn : ls.length ≤ 400) (hx : ∀ x ∈ ls, x.length ≤ 1000) :
    Calls Try.prog 18 #[v, u] w fun e w' => ∃ v', e = .returned v' ∧ Own 5 w.heap.size w' v' (l ++ listL ls) ∧ Below w.heap.size w w' := by
  have Hu : Hid (RsL w u ls) := hu
  have Hx : Hid (∀ x ∈ ls, x.length ≤ 1000) := hx
  obtain ⟨ao, cap, rfl⟩ := hu.len
  clear hu hx
  have hz : IntKind.u64.wrap (ls.length : Int) = ls.length := by rw [IntKind.wrap_u64]; omega
  have hs := sizeL_length ls.length
  go_enter Try.func18, Try.ntmps18
  go_wp2_with fail
  refine (fresh_any _ B _ _ _ h (by omega) (by omega) (by omega)).mono ?_
  rintro e w1 ⟨v1, rfl, ho1, hb1⟩
  go_wp2_with fail
  refine (laySize_any _ _ _ _ _ ls.length rfl ho1 (by omega) hb1.size).mono ?_
  rintro e w2 ⟨v2, rfl, ho2, hb2⟩
  have Q : Hid (Own 5 w.heap.size w2 v2 (l ++ sizeL ls.length) ∧ Below w.heap.size w w2) := ⟨ho2, hb1.trans hb2⟩
  clear ho1 hb1 ho2 hb2
  go_wp2_with fail
  go_loopw [5, 7, 16] (fun out _ i wr => ∃ k : Nat, k ≤ ls.length ∧ i = .int .i64 k ∧ Own 5 w.heap.size wr out (l ++ sizeL ls.length ++ strsL (ls.take k)) ∧ Below w.heap.size w wr) (fun _ _ i _ => ls.length - (intOf i).toNat)
  case atStart => exact ⟨0, Nat.zero_le _, rfl, by simpa [strsL] using Q.out.1, Q.out.2⟩
  case round =>
    obtain ⟨k, hk, rfl, ho, hb⟩ := hrel
    have Ho : Hid (Own 5 w.heap.size wr u5 (l ++ sizeL ls.length ++ strsL (ls.take k))) := ho
    have Hb : Hid (Below w.heap.size w wr) := hb
    clear ho hb
    by_cases hlt : k < ls.length
    · obtain ⟨b, off, cap', e, hcap, hbB, hc⟩ := (RdL.below Hu.out Hb.out).at (by omega)
      simp only [Value.slice.injEq] at e
      obtain ⟨rfl, -, rfl⟩ := e
      obtain ⟨a1, c1, hcell, hrd⟩ := hc k hlt
      have Hrd : Hid (Rd w.heap.size wr (.slice a1 ls[k].length c1) ls[k]) := hrd
      clear hc hrd
      have hxk := Hx.out ls[k] (List.getElem_mem hlt)
      have hle := strsL_take_le ls k hn Hx.out
      go_wp2_with fail
      refine (layBytes_any _ w.heap.size _ _ _ ls[k] Ho.out Hrd.out (by simp; omega) (by omega) Hb.out.size).mono ?_
      rintro e w3 ⟨v3, rfl, ho3, hb3⟩
      have q1 : Hid (Own 5 w.heap.size w3 v3 (l ++ sizeL ls.length ++ strsL (ls.take (k + 1)))) := by
        show Own _ _ _ _ _
        rw [strsL_take_succ ls k hlt, ← List.append_assoc]; exact ho3
      have q2 : Hid (Below w.heap.size w w3) := Hb.out.trans hb3
      clear ho3 hb3
      go_wp2
      go_roundw
      case rel => exact ⟨k + 1, by omega, by go_num, q1.out, q2.out⟩
      case measure => simp [intOf]; omega
    · obtain rfl : k = ls.length := by omega
      go_wp2
      go_ret
      refine ⟨_, rfl, ?_, Hb.out⟩
      have := Ho.out
      rw [List.take_length, List.append_assoc] at this
      exact this

set_option maxHeartbeats 1000000 in
theorem refPutList_any (w : World) (B : Nat) (v u : Value) (l : List UInt8) (ls : List (List UInt8)) (h : Rd B w v l) (hu : RsL w u ls) (hl : l.length ≤ 1000) (hn : ls.length ≤ 400) (hx : ∀ x ∈ ls, x.length ≤ 1000) :
    Calls Try.prog 20 #[v, u] w fun e w' => ∃ v', e = .returned v' ∧ Own 5 w.heap.size w' v' (l ++ listL ls) ∧ Below w.heap.size w w' := by
  have Hu : Hid (RsL w u ls) := hu
  have Hx : Hid (∀ x ∈ ls, x.length ≤ 1000) := hx
  obtain ⟨ao, cap, rfl⟩ := hu.len
  clear hu hx
  have hz : IntKind.u64.wrap (ls.length : Int) = ls.length := by rw [IntKind.wrap_u64]; omega
  have hs := sizeL_length ls.length
  go_enter Try.func20, Try.ntmps20
  go_wp2_with fail
  refine (refPutSize _ _ _ _ ls.length (by omega) h (by omega)).mono ?_
  rintro e w2 ⟨v2, rfl, ho2, hb2⟩
  have Q : Hid (Own 5 w.heap.size w2 v2 (l ++ sizeL ls.length) ∧ Below w.heap.size w w2) := ⟨ho2, hb2⟩
  clear ho2 hb2
  go_wp2_with fail
  go_loopw [5, 6] (fun out i wr => ∃ k : Nat, k ≤ ls.length ∧ i = .int .i64 k ∧ Own 5 w.heap.size wr out (l ++ sizeL ls.length ++ strsL (ls.take k)) ∧ Below w.heap.size w wr) (fun _ i _ => ls.length - (intOf i).toNat)
  case atStart => exact ⟨0, Nat.zero_le _, rfl, by simpa [strsL] using Q.out.1, Q.out.2⟩
  case round =>
    obtain ⟨k, hk, rfl, ho, hb⟩ := hrel
    have Ho : Hid (Own 5 w.heap.size wr u5 (l ++ sizeL ls.length ++ strsL (ls.take k))) := ho
    have Hb : Hid (Below w.heap.size w wr) := hb
    clear ho hb
    by_cases hlt : k < ls.length
    · obtain ⟨b, off, cap', e, hcap, hbB, hc⟩ := (RdL.below Hu.out Hb.out).at (by omega)
      simp only [Value.slice.injEq] at e
      obtain ⟨rfl, -, rfl⟩ := e
      obtain ⟨a1, c1, hcell, hrd⟩ := hc k hlt
      have Hrd : Hid (Rd w.heap.size wr (.slice a1 ls[k].length c1) ls[k]) := hrd
      clear hc hrd
      have hxk := Hx.out ls[k] (List.getElem_mem hlt)
      have hle := strsL_take_le ls k hn Hx.out
      go_wp2_with fail
      refine (refPutBytes _ _ _ _ _ _ ls[k] Ho.out.rd Hrd.out (by simp; omega) (by omega)).mono ?_
      rintro e w3 ⟨v3, rfl, ho3, hb3⟩
      have q1 : Hid (Own 5 w.heap.size w3 v3 (l ++ sizeL ls.length ++ strsL (ls.take (k + 1)))) := by
        show Own _ _ _ _ _
        rw [strsL_take_succ ls k hlt, ← List.append_assoc]; exact ho3.mono Hb.out.size
      have q2 : Hid (Below w.heap.size w w3) := Gr.trans Hb.out hb3
      clear ho3 hb3
      go_wp2
      go_roundw
      case rel => exact ⟨k + 1, by omega, by go_num, q1.out, q2.out⟩
      case measure => simp [intOf]; omega
    · obtain rfl : k = ls.length := by omega
      go_wp2
      go_ret
      refine ⟨_, rfl, ?_, Hb.out⟩
      have := Ho.out
      rw [List.take_length, List.append_assoc] at this
      exact this

/-- Such strings as are asked about. -/
def smallB (ls : List (List UInt8)) : Bool := decide (ls.length ≤ 40 ∧ ∀ x ∈ ls, x.length ≤ 300)

set_option maxHeartbeats 1000000 in
theorem small_any (w : World) (u : Value) (ls : List (List UInt8)) (hu : RsL w u ls) :
    Calls Try.prog 17 #[u] w fun e w' => e = .returned (.bool (smallB ls)) ∧ w = w' := by
  have Hu : Hid (RsL w u ls) := hu
  obtain ⟨ao, cap, rfl⟩ := hu.len
  clear hu
  go_enter Try.func17, Try.ntmps17
  go_wp2_with fail
  go_loop [3] (fun i => ∃ k : Nat, k ≤ 40 ∧ k ≤ ls.length ∧ i = .int .i64 k ∧ ∀ x ∈ ls.take k, x.length ≤ 300) (fun i => 41 - (intOf i).toNat)
  case atStart => exact ⟨0, by omega, Nat.zero_le _, rfl, by simp⟩
  case round =>
    obtain ⟨k, hk, hk2, rfl, hall⟩ := hrel
    have Hall : Hid (∀ x ∈ ls.take k, x.length ≤ 300) := hall
    clear hall
    by_cases hlt : k < ls.length
    · obtain ⟨b, off, cap', e, hcap, hbB, hc⟩ := Hu.out.at (by omega)
      simp only [Value.slice.injEq] at e
      obtain ⟨rfl, -, rfl⟩ := e
      obtain ⟨a1, c1, hcell, -⟩ := hc k hlt
      clear hc
      by_cases h40 : k = 40
      · have d1 : ((k : Int) == 40) = true := by simp; omega
        have hs : Hid (smallB ls = false) := by
          show smallB ls = false
          unfold smallB
          simp only [decide_eq_false_iff_not]
          rintro ⟨h1, -⟩
          omega
        clear h40
        go_wp2
        go_ret
        exact ⟨by rw [hs.out]; rfl, rfl⟩
      · have d1 : ((k : Int) == 40) = false := by simp; omega
        obtain ⟨y, hy⟩ : ∃ y, y = ls[k].length := ⟨_, rfl⟩
        rw [← hy] at hcell
        have Hy : Hid (y = ls[k].length) := hy
        clear hy
        by_cases h300 : 300 < y
        · have hs : Hid (smallB ls = false) := by
            show smallB ls = false
            unfold smallB
            simp only [decide_eq_false_iff_not]
            rintro ⟨-, h2⟩
            have := h2 _ (List.getElem_mem hlt)
            have := Hy.out
            omega
          go_wp2
          go_ret
          exact ⟨by rw [hs.out]; rfl, rfl⟩
        · go_wp2
          go_round
          case rel =>
            refine ⟨k + 1, by omega, by omega, by go_num, fun x hx => ?_⟩
            rw [List.take_succ_eq_append_getElem hlt, List.mem_append] at hx
            rcases hx with hx | hx
            · exact Hall.out x hx
            · simp at hx; subst hx; have := Hy.out; omega
          case measure => simp [intOf]; omega
    · obtain rfl : k = ls.length := by omega
      have hs : Hid (smallB ls = true) := by
        show smallB ls = true
        unfold smallB
        simp only [decide_eq_true_eq]
        exact ⟨hk, by have := Hall.out; rwa [List.take_length] at this⟩
      go_wp2
      go_ret
      exact ⟨by rw [hs.out]; rfl, rfl⟩

set_option maxHeartbeats 1000000 in
theorem same_any (w : World) (u v : Value) (ls : List (List UInt8)) (hu : RsL w u ls) (hv : RsL w v ls) (hn : ls.length ≤ 100000) :
    Calls Try.prog 33 #[u, v] w fun e w' => e = .returned (.bool true) ∧ Below w.heap.size w w' := by
  have Hu : Hid (RsL w u ls) := hu
  have Hv : Hid (RsL w v ls) := hv
  obtain ⟨ao, cap, rfl⟩ := hu.len
  obtain ⟨ao', cap', rfl⟩ := hv.len
  clear hu hv
  go_enter Try.func33, Try.ntmps33
  go_wp2_with fail
  go_loopw [5] (fun i wr => ∃ k : Nat, k ≤ ls.length ∧ i = .int .i64 k ∧ Gr w wr) (fun i _ => ls.length - (intOf i).toNat)
  case atStart => exact ⟨0, Nat.zero_le _, rfl, Gr.refl _⟩
  case round =>
    obtain ⟨k, hk, rfl, hg⟩ := hrel
    have Hg : Hid (Gr w wr) := hg
    clear hg
    by_cases hlt : k < ls.length
    · obtain ⟨b, off, cap1, e, hcap, hbB, hc⟩ := (Hu.out.gr Hg.out).at (by omega)
      simp only [Value.slice.injEq] at e
      obtain ⟨rfl, -, rfl⟩ := e
      obtain ⟨a1, c1, hcell, hrd⟩ := hc k hlt
      obtain ⟨b', off', cap2, e, hcap', hbB', hc'⟩ := (Hv.out.gr Hg.out).at (by omega)
      simp only [Value.slice.injEq] at e
      obtain ⟨rfl, -, rfl⟩ := e
      obtain ⟨a2, c2, hcell', hrd'⟩ := hc' k hlt
      have cv1 := fun n => run_conv_rd Try.bt 9 (by kernel_rfl) (wr.drewN n) _ _ _ (hrd.drewN n)
      have cv2 := fun n => run_conv_rd Try.bt 9 (by kernel_rfl) (wr.drewN n) _ _ _ (hrd'.drewN n)
      clear hc hc' hrd hrd'
      go_wp2_with fail
      go_quiet (fail)
      have q : Hid (Gr w (wr.drewN nq)) := below_drewN Hg.out _
      clear cv1 cv2 hcell hcell'
      go_wp2
      go_roundw
      case rel => exact ⟨k + 1, by omega, by go_num, q.out⟩
      case measure => simp [intOf]; omega
    · obtain rfl : k = ls.length := by omega
      go_wp2
      go_ret
      exact ⟨rfl, Hg.out⟩

end Go.Proofs.Ytjobmpfnnfmonaa
