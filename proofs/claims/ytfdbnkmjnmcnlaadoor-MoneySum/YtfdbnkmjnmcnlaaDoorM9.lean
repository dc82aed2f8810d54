/-
  Contract of Parse as the document has it.
-/
import Derived.Test.YtfdbnkmjnmcnlaaDoorM8
namespace Go.Proofs.YtfdbnkmjnmcnlaaDoor
open Go.RowKit

theorem take_isF (l : List UInt8) : ∀ c ∈ l.take (nF l), isF c = true := by
  induction l with
  | nil => simp
  | cons d l ih =>
    by_cases hf : isF d = true
    · simp only [nF, hf, if_true, List.take_succ_cons]
      intro c hc
      rcases List.mem_cons.1 hc with rfl | hc
      · exact hf
      · exact ih c hc
    · simp [nF, hf]
theorem okL_part (l : List UInt8) (h : okL l = true) : nF (part l) = (part l).length ∧ (part l).length ≤ 8 := by
  simp only [okL, okT, Bool.and_eq_true, Bool.or_eq_true, beq_iff_eq, decide_eq_true_eq] at h
  rcases h.2 with h1 | h1
  · have : part l = [] := by rw [part, h1]; simp
    rw [this]; simp [nF]
  · exact ⟨h1.1.1.2, h1.2⟩
theorem all_isF (l : List UInt8) (h : okL l = true) : ∀ c ∈ allL l, isF c = true := by
  obtain ⟨h1, _⟩ := okL_part l h
  intro c hc
  rcases List.mem_append.1 hc with hc | hc
  · exact take_isF l c hc
  · rcases List.mem_append.1 hc with hc | hc
    · have := take_isF (part l) c
      rw [h1, List.take_length] at this
      exact this hc
    · exact zeros_isF _ c hc

/-- A text's size. -/
def tsize : Value → Nat
  | .string P => P.size
  | _ => 0
theorem sub_u8 (c : Nat) (h1 : 48 ≤ c) (h2 : c ≤ 57) : IntKind.u8.wrap ((c : Int) - 48) = ((c - 48 : Nat) : Int) := by
  rw [IntKind.wrap_u8]; omega

set_option maxHeartbeats 1000000 in
set_option maxRecDepth 100000 in
theorem rparse_any (w : World) (S : ByteArray) (hS : S.size ≤ 900000) :
    Calls Tryd.prog 17 #[.string S] w fun e w' => e = .returned (.tuple #[.int .u64 (parseV (MM + 1) (bl S) : Nat), .int .i64 (parseE (MM + 1) (bl S))]) ∧ Below w.heap.size w w' := by
  have hf := form_any w S hS
  go_enter Tryd.func17, Tryd.ntmps17
  go_wp2_with fail
  refine hf.mono ?_
  rintro e w1 ⟨⟨A, B, rfl, hAB⟩, hb1⟩
  cases hok : okL (bl S) with
  | false =>
    have HN : Hid (parseV (MM + 1) (bl S) = 0 ∧ parseE (MM + 1) (bl S) = 3) := parse_no hok
    go_wp2
    go_ret2
    rw [HN.out.1, HN.out.2]
    exact ⟨rfl, hb1⟩
  | true =>
    have HO : Hid (okL (bl S) = true) := hok
    have HA : Hid (bl A = whole (bl S)) := (hAB hok).1
    have HB : Hid (bl B = part (bl S)) := (hAB hok).2
    have HP := okL_part (bl S) hok
    have hAs : A.size ≤ 900000 := by rw [← bl_length, HA.out, whole, List.length_take, bl_length]; omega
    have hBs : B.size ≤ 8 := by rw [← bl_length, HB.out]; exact HP.2
    clear hAB hf hok HP
    go_wp2_with fail
    go_loop [5] (fun p => ∃ (P : ByteArray), p = .string P ∧ P.size ≤ 8 ∧ Hid (∃ j, P.size = B.size + j ∧ bl P = part (bl S) ++ zeros j)) (fun p => 8 - tsize p)
    case atStart => exact ⟨B, rfl, hBs, 0, by omega, by rw [HB.out]; simp [zeros]⟩
    case round =>
      obtain ⟨P, rfl, hP8, HPz⟩ := hrel
      by_cases h8 : P.size < 8
      · have d8 : (P.size : Int) < 8 := by omega
        have hsz : (P ++ (⟨#[48]⟩ : ByteArray)).size = P.size + 1 := by simp [ByteArray.size_append]; rfl
        have Hsz : Hid ((P ++ (⟨#[48]⟩ : ByteArray)).size = P.size + 1) := hsz
        clear hsz
        go_wp2
        go_round
        case rel =>
          obtain ⟨j, h1, h2⟩ := HPz.out
          refine ⟨_, rfl, by rw [Hsz.out]; omega, j + 1, by rw [Hsz.out, h1]; omega, ?_⟩
          rw [tx_bl P, h2, show (⟨#[48]⟩ : ByteArray) = ⟨[48].toArray⟩ from rfl, tx_append, bl_mk, List.append_assoc]
          congr 1
          simp [zeros, List.replicate_succ']
        case measure => show 8 - (P ++ (⟨#[48]⟩ : ByteArray)).size < 8 - P.size; rw [Hsz.out]; omega
      · have d8 : ¬ (P.size : Int) < 8 := by omega
        have HAll : Hid (bl (A ++ P) = allL (bl S)) := by
          obtain ⟨j, h1, h2⟩ := HPz.out
          show _ = _
          have hj : j = 8 - (part (bl S)).length := by rw [← HB.out, bl_length]; omega
          rw [tx_bl A, tx_bl P, tx_append, bl_mk, h2, HA.out, hj]
          rfl
        go_wp2_with fail
        generalize hAll : A ++ P = All at *
        have hAlls : All.size ≤ 900008 := by rw [← hAll, ByteArray.size_append]; omega
        clear hAll
        have HF := all_isF (bl S) HO.out
        rw [← HAll.out] at HF
        have HF2 : Hid (∀ c ∈ bl All, isF c = true) := HF
        have HV : Hid (valL (MM + 1) (bl S) = cap (MM + 1) 0 (bl All)) := by show _ = _; rw [HAll.out]; rfl
        clear HF HAll HPz HA HB
        go_loop [8, 9] (fun v i => ∃ k n : Nat, k ≤ All.size ∧ i = .int .i64 k ∧ v = .int .u64 n ∧ Hid (n ≤ MM + 1 ∧ valL (MM + 1) (bl S) = cap (MM + 1) n ((bl All).drop k))) (fun _ i => All.size - (intOf i).toNat)
        case atStart => exact ⟨0, 0, by omega, rfl, rfl, Nat.zero_le _, by rw [HV.out, List.drop_zero]⟩
        case round =>
          obtain ⟨k, n, hk, rfl, rfl, HN⟩ := hrel
          by_cases hlt : k < All.size
          · have hl : k < (bl All).length := by rw [bl_length]; exact hlt
            have hia := fun w => run_at All k hlt _ rfl w (k : Int) rfl
            have hc := (isF_iff _).1 (HF2.out _ (List.getElem_mem hl))
            have hstep : valL (MM + 1) (bl S) = cap (MM + 1) (capS (MM + 1) n ((bl All)[k].toNat - 48)) ((bl All).drop (k + 1)) := by
              rw [HN.out.2, List.drop_eq_getElem_cons hl, cap_cons]
            have HS : Hid (valL (MM + 1) (bl S) = cap (MM + 1) (capS (MM + 1) n ((bl All)[k].toNat - 48)) ((bl All).drop (k + 1))) := hstep
            clear hstep
            generalize (bl All)[k].toNat = c at *
            obtain ⟨x, hx⟩ : ∃ x : Nat, 10 * n + (c - 48) = x := ⟨_, rfl⟩
            have ew : IntKind.u64.wrap (IntKind.u64.wrap ((n : Int) * 10) + ((c : Int) - 48)) = (x : Int) := by
              have := HN.out.1; unfold MM at this; rw [IntKind.wrap_u64, IntKind.wrap_u64]; omega
            have Hx : Hid (10 * n + (c - 48) = x) := hx
            have hc1 := hc.1
            have hc2 := hc.2
            clear hx hc
            by_cases hm : x ≤ MM
            · have d : decide ((x : Int) > 2100000000000000) = false := by unfold MM at hm; simp; omega
              have HR : Hid (capS (MM + 1) n (c - 48) = x ∧ x ≤ MM + 1) := by unfold capS; rw [Hx.out, if_pos (by omega)]; exact ⟨rfl, by omega⟩
              clear hm
              go_wp2
              go_round
              case rel => exact ⟨k + 1, x, by omega, by go_num, rfl, HR.out.2, by rw [HS.out, HR.out.1]⟩
              case measure => simp [intOf]; omega
            · have d : decide ((x : Int) > 2100000000000000) = true := by unfold MM at hm; simp; omega
              have HR : Hid (capS (MM + 1) n (c - 48) = MM + 1) := by show _ = _; unfold capS; rw [Hx.out]; split <;> omega
              clear hm
              go_wp2
              go_round
              case rel => exact ⟨k + 1, MM + 1, by omega, by go_num, rfl, Nat.le_refl _, by rw [HS.out, HR.out]⟩
              case measure => simp [intOf]; omega
          · have HE : Hid (valL (MM + 1) (bl S) = n) := by
              show _ = _
              rw [HN.out.2, List.drop_of_length_le (by rw [bl_length]; omega)]; rfl
            by_cases hm : n ≤ MM
            · have HP : Hid (parseV (MM + 1) (bl S) = n ∧ parseE (MM + 1) (bl S) = 0) := by
                have := parse_ok (C := MM + 1) HO.out (by rw [HE.out]; omega)
                rw [HE.out] at this; exact this
              have d : decide ((n : Int) > 2100000000000000) = false := by unfold MM at hm; simp; omega
              clear hm
              go_wp2
              go_ret2
              rw [HP.out.1, HP.out.2]
              exact ⟨rfl, hb1⟩
            · have HP : Hid (parseV (MM + 1) (bl S) = 0 ∧ parseE (MM + 1) (bl S) = 31) := parse_high HO.out (by rw [HE.out]; omega)
              have d : decide ((n : Int) > 2100000000000000) = true := by unfold MM at hm; simp; omega
              clear hm
              go_wp2
              go_ret2
              rw [HP.out.1, HP.out.2]
              exact ⟨rfl, hb1⟩
end Go.Proofs.YtfdbnkmjnmcnlaaDoor
