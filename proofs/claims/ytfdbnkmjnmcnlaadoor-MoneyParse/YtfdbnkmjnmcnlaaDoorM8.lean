/-
  Contracts of Parse as the document has it.
-/
import Derived.Test.YtfdbnkmjnmcnlaaDoorM7
namespace Go.Proofs.YtfdbnkmjnmcnlaaDoor
open Go.RowKit

theorem nF_drop (l : List UInt8) (k : Nat) (h : k < l.length) (hf : isF l[k] = true) : nF (l.drop k) = nF (l.drop (k + 1)) + 1 := by
  rw [List.drop_eq_getElem_cons h]; simp [nF, hf]
theorem nF_stop (l : List UInt8) (k : Nat) (h : k < l.length) (hf : isF l[k] = false) : nF (l.drop k) = 0 := by
  rw [List.drop_eq_getElem_cons h]; simp [nF, hf]

set_option maxHeartbeats 1000000 in
theorem figures_count (w : World) (S : ByteArray) (hS : S.size ≤ 900000) :
    Calls Tryd.prog 32 #[.string S] w fun e w' => e = .returned (.int .i64 (nF (bl S) : Nat)) ∧ w' = w := by
  go_enter Tryd.func32, Tryd.ntmps32
  go_wp2_with fail
  go_loop [3] (fun i => ∃ k : Nat, k ≤ S.size ∧ i = .int .i64 k ∧ Hid (nF (bl S) = k + nF ((bl S).drop k))) (fun i => S.size - (intOf i).toNat)
  case atStart => exact ⟨0, by omega, rfl, by show _ = _; simp⟩
  case round =>
    obtain ⟨k, hk, rfl, HN⟩ := hrel
    by_cases hlt : k < S.size
    · have hl : k < (bl S).length := by rw [bl_length]; exact hlt
      have hia := fun w => run_at S k hlt _ rfl w (k : Int) rfl
      by_cases h1 : 48 ≤ (bl S)[k].toNat
      · by_cases h2 : (bl S)[k].toNat ≤ 57
        · have HF : Hid (nF (bl S) = (k + 1) + nF ((bl S).drop (k + 1))) := by show _ = _; rw [HN.out, nF_drop _ k hl ((isF_iff _).2 ⟨h1, h2⟩)]; omega
          generalize (bl S)[k].toNat = c at *
          go_wp2
          go_round
          case rel => exact ⟨k + 1, by omega, by go_num, HF⟩
          case measure => simp [intOf]; omega
        · have HF : Hid (nF (bl S) = k) := by show _ = _; rw [HN.out, nF_stop _ k hl (by rw [Bool.eq_false_iff]; intro h; exact h2 ((isF_iff _).1 h).2)]; omega
          generalize (bl S)[k].toNat = c at *
          go_wp2
          go_ret
          rw [HF.out]
          exact ⟨rfl, rfl⟩
      · have HF : Hid (nF (bl S) = k) := by show _ = _; rw [HN.out, nF_stop _ k hl (by rw [Bool.eq_false_iff]; intro h; exact h1 ((isF_iff _).1 h).1)]; omega
        generalize (bl S)[k].toNat = c at *
        go_wp2
        go_ret
        rw [HF.out]
        exact ⟨rfl, rfl⟩
    · have HF : Hid (nF (bl S) = k) := by show _ = _; rw [HN.out, List.drop_of_length_le (by rw [bl_length]; omega)]; rfl
      go_wp2
      go_ret
      rw [HF.out]
      exact ⟨rfl, rfl⟩

/-- What form answers. -/
def formA (S : ByteArray) (e : Ending) : Prop := ∃ A B : ByteArray, e = .returned (.tuple #[.string A, .string B, .bool (okL (bl S))]) ∧ (okL (bl S) = true → bl A = whole (bl S) ∧ bl B = part (bl S))

theorem okL_zero (l : List UInt8) (h : nF l = 0) : okL l = false := by simp [okL, okH, h]
theorem okL_nought (l : List UInt8) (h : 1 < nF l) (h0 : 0 < l.length) (hc : l[0].toNat = 48) : okL l = false := by
  cases l with
  | nil => simp at h0
  | cons c l =>
    obtain rfl : c = 48 := UInt8.toNat_inj.1 hc
    simp [okL, okH, h]
theorem okH_true (l : List UInt8) (h : 0 < nF l) (h0 : 0 < l.length) (hc : 1 < nF l → ¬ l[0].toNat = 48) : okH l = true := by
  cases l with
  | nil => simp at h0
  | cons c l =>
    have h1 : (nF (c :: l) != 0) = true := by simp; omega
    have h2 : (decide (1 < nF (c :: l)) && (c :: l).head? == some 48) = false := by
      rw [Bool.eq_false_iff]
      intro hh
      simp only [Bool.and_eq_true, decide_eq_true_eq, List.head?_cons, beq_iff_eq, Option.some.injEq] at hh
      have := hc hh.1
      apply this
      show c.toNat = 48
      rw [hh.2]; rfl
    simp only [okH, h1, h2, Bool.not_false, Bool.and_self]

theorem okL_rest (S : ByteArray) (n : Nat) (R : ByteArray) (hn : nF (bl S) = n) (hH : okH (bl S) = true) (hR : bl R = part (bl S)) (hlt : n < S.size) :
    okL (bl S) = (decide (((bl S)[n]'(by rw [bl_length]; exact hlt)).toNat = 46) && decide (nF (bl R) = R.size) && decide (1 ≤ R.size) && decide (R.size ≤ 8)) := by
  have hl : n < (bl S).length := by rw [bl_length]; exact hlt
  have hne : (n == (bl S).length) = false := by rw [bl_length]; simp; omega
  have hs : (part (bl S)).length = R.size := by rw [← hR, bl_length]
  have e : ((some (bl S)[n] : Option UInt8) == some 46) = decide ((bl S)[n].toNat = 46) := by
    rw [Bool.eq_iff_iff]
    simp only [beq_iff_eq, Option.some.injEq, decide_eq_true_eq]
    exact ⟨fun h => by rw [h]; rfl, fun h => UInt8.toNat_inj.1 h⟩
  rw [okL, hH, okT, hn, hne, List.getElem?_eq_getElem hl, e, hs, ← hR, Bool.true_and, Bool.false_or]
  rfl

set_option maxHeartbeats 4000000 in
theorem form_any (w : World) (S : ByteArray) (hS : S.size ≤ 900000) :
    Calls Tryd.prog 25 #[.string S] w fun e w' => formA S e ∧ Below w.heap.size w w' := by
  have hn := nF_le (bl S)
  rw [bl_length] at hn
  have hc := fun w => figures_count w S hS
  generalize hnn : nF (bl S) = n at *
  have Hn : Hid (nF (bl S) = n) := hnn
  clear hnn
  by_cases h0 : n = 0
  · subst h0
    go_enter Tryd.func25, Tryd.ntmps25
    go_wp2_with (go_at_call 32; refine (hc _).mono ?_; rintro e w' ⟨rfl, rfl⟩)
    go_ret3
    have hok := okL_zero _ Hn.out
    exact ⟨⟨⟨#[]⟩, ⟨#[]⟩, by rw [hok]; rfl, fun h => by rw [hok] at h; cases h⟩, Below.refl _ _⟩
  · have hp : 0 < S.size := by omega
    have hl0 : 0 < (bl S).length := by rw [bl_length]; exact hp
    have hia := fun w => run_at S 0 hp _ rfl w (0 : Int) rfl
    by_cases hno : 1 < n ∧ (bl S)[0].toNat = 48
    · have HO : Hid (okL (bl S) = false) := okL_nought _ (by rw [Hn.out]; exact hno.1) hl0 hno.2
      have h1 := hno.1
      rw [hno.2] at hia
      clear hno
      go_enter Tryd.func25, Tryd.ntmps25
      go_wp2_with (go_at_call 32; refine (hc _).mono ?_; rintro e w' ⟨rfl, rfl⟩)
      go_ret3
      exact ⟨⟨⟨#[]⟩, ⟨#[]⟩, by rw [HO.out]; rfl, fun h => by rw [HO.out] at h; cases h⟩, Below.refl _ _⟩
    · have HH : Hid (okH (bl S) = true) := okH_true _ (by rw [Hn.out]; omega) hl0 (fun h h' => hno ⟨by rw [Hn.out] at h; exact h, h'⟩)
      have hno2 : ¬ 1 < n ∨ 1 < n ∧ ¬ (bl S)[0].toNat = 48 := by
        by_cases h : 1 < n
        · exact .inr ⟨h, fun h' => hno ⟨h, h'⟩⟩
        · exact .inl h
      clear hno
      generalize (bl S)[0].toNat = c0 at *
      by_cases hall : n = S.size
      · have HT : Hid (okL (bl S) = true ∧ whole (bl S) = bl S ∧ part (bl S) = []) := by
          refine ⟨by simp [okL, HH.out, okT, Hn.out, hall, bl_length], ?_, ?_⟩
          · rw [whole, Hn.out, List.take_of_length_le (by rw [bl_length]; omega)]
          · rw [part, Hn.out, List.drop_of_length_le (by rw [bl_length]; omega)]
        have dall : ((n : Int) == (S.size : Int)) = true := by simp; omega
        clear hall
        rcases hno2 with h1 | ⟨h1, h2⟩
        · go_enter Tryd.func25, Tryd.ntmps25
          go_wp2_with (go_at_call 32; refine (hc _).mono ?_; rintro e w' ⟨rfl, rfl⟩)
          go_ret3
          exact ⟨⟨S, ⟨#[]⟩, by rw [HT.out.1]; rfl, fun _ => ⟨HT.out.2.1.symm, by rw [HT.out.2.2]; rfl⟩⟩, Below.refl _ _⟩
        · have d2 : ((c0 : Int) == 48) = false := by simp; omega
          go_enter Tryd.func25, Tryd.ntmps25
          go_wp2_with (go_at_call 32; refine (hc _).mono ?_; rintro e w' ⟨rfl, rfl⟩)
          go_ret3
          exact ⟨⟨S, ⟨#[]⟩, by rw [HT.out.1]; rfl, fun _ => ⟨HT.out.2.1.symm, by rw [HT.out.2.2]; rfl⟩⟩, Below.refl _ _⟩
      · have hlt : n < S.size := by omega
        have hl : n < (bl S).length := by rw [bl_length]; exact hlt
        have hin := fun w => run_at S n hlt _ rfl w (n : Int) rfl
        rcases hno2 with h1 | ⟨h1, h2⟩
        all_goals
          try have d2 : ((c0 : Int) == 48) = false := by simp; omega
          go_enter Tryd.func25, Tryd.ntmps25
          go_wp2_with (go_at_call 32; refine (hc _).mono ?_; rintro e w' ⟨rfl, rfl⟩)
          generalize hR : S.extract (n + 1) S.size = R
          have HR : Hid (bl R = part (bl S)) := by
            show _ = _
            rw [← hR, part, Hn.out]
            conv => lhs; rw [tx_bl S, tx_drop _ _ _ (tx_size _), bl_mk]
          have hRs : R.size ≤ 900000 := by rw [← bl_length, HR.out, part, List.length_drop, bl_length]; omega
          have HA : Hid (bl (S.extract 0 n) = whole (bl S)) := by
            show _ = _
            rw [whole, Hn.out]
            conv => lhs; rw [tx_bl S, tx_take, bl_mk]
          have hc2 := fun w => figures_count w R hRs
          have HK : Hid (okL (bl S) = (decide ((bl S)[n].toNat = 46) && decide (nF (bl R) = R.size) && decide (1 ≤ R.size) && decide (R.size ≤ 8))) := okL_rest S n R Hn.out HH.out HR.out hlt
          clear hR HH hia hc
          generalize (bl S)[n].toNat = c at *
          generalize nF (bl R) = m at *
          by_cases k1 : c = 46
          · have q1 : ((c : Int) == 46) = true := by simp; omega
            by_cases k2 : m = R.size
            · have q2 : ((m : Int) == (R.size : Int)) = true := by simp; omega
              by_cases k3 : 1 ≤ R.size
              · have q3 : decide ((R.size : Int) ≥ 1) = true := by simp; omega
                by_cases k4 : R.size ≤ 8
                · have q4 : decide ((R.size : Int) ≤ 8) = true := by simp; omega
                  have HE : Hid (okL (bl S) = true) := by show _ = _; rw [HK.out]; simp [k1, k2, k3, k4]
                  clear k1 k2
                  go_quiet ((go_at_call 32; exact Calls.quiet_of_same (hc2 _)))
                  go_wp2
                  go_ret3
                  exact ⟨⟨S.extract 0 n, R, by rw [HE.out]; rfl, fun _ => ⟨HA.out, HR.out⟩⟩, Below.drewN' _ _ _⟩
                · have q4 : decide ((R.size : Int) ≤ 8) = false := by simp; omega
                  have HE : Hid (okL (bl S) = false) := by show _ = _; rw [HK.out]; simp [k4]
                  clear k1 k2
                  go_quiet ((go_at_call 32; exact Calls.quiet_of_same (hc2 _)))
                  go_wp2
                  go_ret3
                  exact ⟨⟨S.extract 0 n, R, by rw [HE.out]; rfl, fun _ => ⟨HA.out, HR.out⟩⟩, Below.drewN' _ _ _⟩
              · have q3 : decide ((R.size : Int) ≥ 1) = false := by simp; omega
                have HE : Hid (okL (bl S) = false) := by show _ = _; rw [HK.out]; simp [k3]
                clear k1 k2
                go_quiet ((go_at_call 32; exact Calls.quiet_of_same (hc2 _)))
                go_wp2
                go_ret3
                exact ⟨⟨S.extract 0 n, R, by rw [HE.out]; rfl, fun _ => ⟨HA.out, HR.out⟩⟩, Below.drewN' _ _ _⟩
            · have q2 : ((m : Int) == (R.size : Int)) = false := by simp; omega
              have HE : Hid (okL (bl S) = false) := by show _ = _; rw [HK.out]; simp [k2]
              clear k1 k2
              go_quiet ((go_at_call 32; exact Calls.quiet_of_same (hc2 _)))
              go_wp2
              go_ret3
              exact ⟨⟨S.extract 0 n, R, by rw [HE.out]; rfl, fun _ => ⟨HA.out, HR.out⟩⟩, Below.drewN' _ _ _⟩
          · have q1 : ((c : Int) == 46) = false := by simp; omega
            have HE : Hid (okL (bl S) = false) := by show _ = _; rw [HK.out]; simp [k1]
            clear k1
            go_quiet (fail)
            go_wp2
            go_ret3
            exact ⟨⟨S.extract 0 n, R, by rw [HE.out]; rfl, fun _ => ⟨HA.out, HR.out⟩⟩, Below.drewN' _ _ _⟩
end Go.Proofs.YtfdbnkmjnmcnlaaDoor
