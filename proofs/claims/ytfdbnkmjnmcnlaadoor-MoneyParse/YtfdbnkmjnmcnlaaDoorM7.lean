/-
  Contract of package money's Parse.
-/
import Derived.Test.YtfdbnkmjnmcnlaaDoorM6
import Derived.Test.YtfdbnkmjnmcnlaaDoorRunes
namespace Go.Proofs.YtfdbnkmjnmcnlaaDoor
open Go.RowKit

theorem step_high (C : Nat) (s : St) (c : Nat) (h : 128 ≤ c) : stepS C s c = none := by
  unfold stepS; rw [if_neg (by omega), if_pos (by omega)]

set_option maxHeartbeats 1000000 in
set_option maxRecDepth 100000 in
theorem parse_any (w : World) (S : ByteArray) (hS : S.size ≤ 900000) :
    Calls Tryd.prog 16 #[.string S] w fun e w' => e = .returned (.tuple #[.int .u64 (parseV (MM + 1) (bl S) : Nat), .int .i64 (parseE (MM + 1) (bl S))]) ∧ Below w.heap.size w w' := by
  go_enter Tryd.func16, Tryd.ntmps16
  go_wp2_with fail
  have hW0 : It ((w.alloc (Obj.cells (cellsS st0).toArray 39)).iter S 0) (w.heap.size + 1) S 0 := by
    have := It.iter (w.alloc (Obj.cells (cellsS st0).toArray 39)) S
    simpa using this
  have hG0 : Gr (w.alloc (Obj.cells (cellsS st0).toArray 39)) ((w.alloc (Obj.cells (cellsS st0).toArray 39)).iter S 0) := (Below.refl _ _).alloc (Nat.le_refl _) _
  have hR0 : Rdg ((w.alloc (Obj.cells (cellsS st0).toArray 39)).iter S 0) w.heap.size st0 := Arr.gr (heap_alloc_new w _) hG0
  have hB0 : Below w.heap.size w ((w.alloc (Obj.cells (cellsS st0).toArray 39)).iter S 0) := ((Below.refl _ _).alloc (Nat.le_refl _) _).trans (hG0.mono (by simp))
  go_loopw [6] (fun _ wr => ∃ (pos : Nat) (s : St), pos ≤ S.size ∧ It wr (w.heap.size + 1) S pos ∧ Rdg wr w.heap.size s ∧ Hid (Fine s ∧ s.a ≤ pos ∧ runS (MM + 1) st0 (bl S) = runS (MM + 1) s ((bl S).drop pos)) ∧ Below w.heap.size w wr) (fun _ wr => S.size - wr.iterPos (w.heap.size + 1))
  case atStart => exact ⟨0, st0, by omega, hW0, hR0, ⟨⟨by simp [st0], by simp [st0], by simp [st0]⟩, by simp [st0], by simp⟩, hB0⟩
  case round =>
    clear hW0 hG0 hR0 hB0
    obtain ⟨pos, s, hpos, hit, hR, HI, hb⟩ := hrel
    have Hit : Hid (It wr (w.heap.size + 1) S pos) := hit
    have HR : Hid (Rdg wr w.heap.size s) := hR
    clear hit hR
    by_cases hlt : pos < S.size
    · have hnx := fun ty => run_next_it (P := Tryd.prog) Hit.out ty hlt
      have hle := decode_le S pos
      have hdrop : (bl S).drop pos = (bl S)[pos]'(by rw [bl_length]; exact hlt) :: (bl S).drop (pos + 1) := List.drop_eq_getElem_cons (by rw [bl_length]; exact hlt)
      have hrune := rune_at S pos hlt
      have HD : Hid ((bl S).drop pos = (bl S)[pos]'(by rw [bl_length]; exact hlt) :: (bl S).drop (pos + 1)) := hdrop
      have HU : Hid (((bl S)[pos]'(by rw [bl_length]; exact hlt)).toNat < 128 ∧ (Utf8.decode S pos).1 = ((bl S)[pos]'(by rw [bl_length]; exact hlt)).toNat ∧ (Utf8.decode S pos).2 = 1 ∨ 128 ≤ ((bl S)[pos]'(by rw [bl_length]; exact hlt)).toNat ∧ 128 ≤ (Utf8.decode S pos).1) := hrune
      clear hdrop hrune
      have Hit2 : Hid (It (setIt wr (w.heap.size + 1) S (pos + (Utf8.decode S pos).2)) (w.heap.size + 1) S (pos + (Utf8.decode S pos).2)) := Hit.out.set _
      have HR2 : Hid (Rdg (setIt wr (w.heap.size + 1) S (pos + (Utf8.decode S pos).2)) w.heap.size s) := Arr.but HR.out (But.setIt _ _ _ _) (by omega)
      have HB2 : Hid (Below w.heap.size w (setIt wr (w.heap.size + 1) S (pos + (Utf8.decode S pos).2))) := hb.trans ((But.setIt wr (w.heap.size + 1) S (pos + (Utf8.decode S pos).2)).below (by omega))
      generalize (Utf8.decode S pos).1 = r at *
      generalize (Utf8.decode S pos).2 = k at *
      generalize setIt wr (w.heap.size + 1) S (pos + k) = w2 at *
      go_wp2_with fail
      refine (take_any w2 w.heap.size s r HR2.out hle HI.out.1).mono ?_
      cases hst : stepS (MM + 1) s r with
      | none =>
        rintro e w3 ⟨he, _⟩
        obtain ⟨rfl, rfl⟩ := he rfl
        have HN : Hid (parseV (MM + 1) (bl S) = 0 ∧ parseE (MM + 1) (bl S) = 3) := by
          apply parse_no
          have h1 := HI.out.2.2
          have h2 : stepS (MM + 1) s ((bl S)[pos]'(by rw [bl_length]; exact hlt)).toNat = none := by
            rcases HU.out with ⟨_, h, _⟩ | ⟨h, _⟩
            · rw [← h]; exact hst
            · exact step_high _ _ _ h
          rw [HD.out, runS_cons_none h2] at h1
          cases hok : okL (bl S) with
          | false => rfl
          | true =>
            obtain ⟨s2, h3, _⟩ := (run_parse (MM + 1) (by decide) (bl S)).1 hok
            rw [h1] at h3; cases h3
        clear HU HD hst
        go_wp2
        go_ret2
        rw [HN.out.1, HN.out.2]
        exact ⟨rfl, HB2.out⟩
      | some s' =>
        rintro e w3 ⟨_, he⟩
        obtain ⟨rfl, hR3, hb3⟩ := he s' rfl
        have HF : Hid (k = 1 ∧ stepS (MM + 1) s ((bl S)[pos]'(by rw [bl_length]; exact hlt)).toNat = some s') := by
          rcases HU.out with ⟨_, h, h'⟩ | ⟨_, h⟩
          · exact ⟨h', by rw [← h]; exact hst⟩
          · rw [step_high _ _ _ h] at hst; cases hst
        have HR3 : Hid (Rdg w3 w.heap.size s') := hR3
        have HB3 : Hid (But w.heap.size w2 w3) := hb3
        clear HU hst hR3 hb3
        go_wp2
        go_roundw
        case rel =>
          have hk := HF.out.1
          subst hk
          have hfine := step_fine HF.out.2 HI.out.1 (by have := HI.out.2.1; omega)
          refine ⟨pos + 1, s', by omega, Hit2.out.but HB3.out (by omega), HR3.out, ⟨hfine.1, by have := HI.out.2.1; have := hfine.2; omega, ?_⟩, HB2.out.trans (HB3.out.below (Nat.le_refl _))⟩
          rw [HI.out.2.2, HD.out, runS_cons_some HF.out.2]
        case measure =>
          have hk := HF.out.1
          subst hk
          rw [(Hit2.out.but HB3.out (by omega)).pos, Hit.out.pos]
          omega
    · have hnx := fun ty => run_next_it_end (P := Tryd.prog) Hit.out ty hlt
      have HE : Hid (runS (MM + 1) st0 (bl S) = some s) := by
        show _ = _
        rw [HI.out.2.2, List.drop_of_length_le (by rw [bl_length]; omega)]; rfl
      go_wp2_with fail
      refine (mayEnd_any wr w.heap.size s HR.out).mono ?_
      rintro e w3 ⟨rfl, k, rfl⟩
      cases hme : mayEnd s with
      | false =>
        have HN : Hid (parseV (MM + 1) (bl S) = 0 ∧ parseE (MM + 1) (bl S) = 3) := by
          apply parse_no
          cases hok : okL (bl S) with
          | false => rfl
          | true =>
            obtain ⟨s2, h3, h4, _⟩ := (run_parse (MM + 1) (by decide) (bl S)).1 hok
            rw [HE.out] at h3
            obtain rfl := Option.some.inj h3
            rw [hme] at h4; cases h4
        go_wp2
        go_ret2
        rw [HN.out.1, HN.out.2]
        exact ⟨rfl, hb.trans (Below.drewN' _ _ _)⟩
      | true =>
        have HO : Hid (okL (bl S) = true ∧ fillS (MM + 1) s = valL (MM + 1) (bl S)) := by
          cases hok : okL (bl S) with
          | false =>
            have := (run_parse (MM + 1) (by decide) (bl S)).2 hok s HE.out
            rw [hme] at this; cases this
          | true =>
            obtain ⟨s2, h3, _, h5⟩ := (run_parse (MM + 1) (by decide) (bl S)).1 hok
            rw [HE.out] at h3
            obtain rfl := Option.some.inj h3
            exact ⟨rfl, h5⟩
        have HR2 : Hid (Rdg (wr.drewN k) w.heap.size s) := Arr.drewN HR.out k
        have HB2 : Hid (Below w.heap.size w (wr.drewN k)) := hb.trans (Below.drewN' _ _ _)
        clear hme
        generalize wr.drewN k = w2 at *
        go_wp2_with fail
        refine (fill_any w2 w.heap.size s HR2.out HI.out.1).mono ?_
        rintro e w3 ⟨rfl, hR3, hb3⟩
        have c0 := hR3.v
        simp only at c0
        have HB3 : Hid (Below w.heap.size w w3) := HB2.out.trans (hb3.below (Nat.le_refl _))
        rw [HO.out.2] at c0
        clear hR3 hb3
        by_cases hv : valL (MM + 1) (bl S) ≤ MM
        · have HP : Hid (parseV (MM + 1) (bl S) = valL (MM + 1) (bl S) ∧ parseE (MM + 1) (bl S) = 0) := parse_ok HO.out.1 (by omega)
          have Hv : Hid (valL (MM + 1) (bl S) ≤ MM) := hv
          clear hv
          generalize valL (MM + 1) (bl S) = v at *
          go_wp2_with (go_at_call 12; refine (check_ok _ _ (by exact Hv.out)).mono ?_; rintro e w' ⟨rfl, rfl⟩)
          go_ret2
          rw [HP.out.1, HP.out.2]
          exact ⟨rfl, HB3.out⟩
        · have HP : Hid (parseV (MM + 1) (bl S) = 0 ∧ parseE (MM + 1) (bl S) = 31) := parse_high HO.out.1 (by omega)
          have Hv : Hid (¬ valL (MM + 1) (bl S) ≤ MM) := hv
          clear hv
          generalize valL (MM + 1) (bl S) = v at *
          go_wp2_with (go_at_call 12; refine (check_no _ _ (by exact Hv.out)).mono ?_; rintro e w' ⟨rfl, rfl⟩)
          go_ret2
          rw [HP.out.1, HP.out.2]
          exact ⟨rfl, HB3.out⟩
end Go.Proofs.YtfdbnkmjnmcnlaaDoor
