/-
  Contracts of package money's Parse.
-/
import Derived.Test.YtfdbnkmjnmcnlaaDoorM5
namespace Go.Proofs.YtfdbnkmjnmcnlaaDoor
open Go.RowKit

theorem step_fine {s s' : St} {c : Nat} (h : stepS (MM + 1) s c = some s') (hs : Fine s) (ha : s.a ≤ 999999) : Fine s' ∧ s'.a ≤ s.a + 1 := by
  obtain ⟨h1, h2, h3⟩ := hs
  unfold stepS at h
  split at h
  · split at h
    · cases h
    · obtain rfl := Option.some.inj h
      exact ⟨⟨h1, h2, h3⟩, by show s.a ≤ s.a + 1; omega⟩
  · split at h
    · cases h
    · have hc : capS (MM + 1) s.v (c - 48) ≤ MM + 1 := by unfold capS; split <;> omega
      split at h
      · split at h
        · cases h
        · obtain rfl := Option.some.inj h
          exact ⟨⟨hc, h2, by show s.b + 1 ≤ 8; omega⟩, by show s.a ≤ s.a + 1; omega⟩
      · split at h
        · cases h
        · obtain rfl := Option.some.inj h
          exact ⟨⟨hc, by show s.a + 1 ≤ 1000000; omega, h3⟩, by show s.a + 1 ≤ s.a + 1; omega⟩

set_option maxHeartbeats 1000000 in
set_option maxRecDepth 100000 in
theorem take_any (w : World) (g : Nat) (s : St) (c : Nat) (hA : Rdg w g s) (hc : c ≤ 2147483647) (hs : Fine s) :
    Calls Tryd.prog 22 #[.pointer (some ⟨g, 0, none⟩), .int .i32 (c : Int)] w fun e w' => (stepS (MM + 1) s c = none → e = .returned (.bool false) ∧ w' = w) ∧ (∀ s', stepS (MM + 1) s c = some s' → e = .returned (.bool true) ∧ Rdg w' g s' ∧ But g w w') := by
  have HA : Hid (Rdg w g s) := hA
  have HV : Hid (Fine s) := hs
  have c3 := hA.p
  clear hA hs
  by_cases h46 : c = 46
  · subst h46
    go_enter Tryd.func22, Tryd.ntmps22
    go_wp2_with fail
    refine (point_any w g s HA.out).mono ?_
    cases hp : s.p with
    | true =>
      rintro e w1 ⟨he, _⟩
      obtain ⟨rfl, rfl⟩ := he rfl
      go_wp2
      go_ret
      exact ⟨fun _ => ⟨rfl, rfl⟩, fun s' h => by simp [stepS, hp] at h⟩
    | false =>
      rintro e w1 ⟨_, he⟩
      obtain ⟨rfl, hA1, hb1⟩ := he rfl
      go_wp2
      go_ret
      refine ⟨fun h => (by simp [stepS, hp] at h), fun s' h => ?_⟩
      simp [stepS, hp] at h
      subst h
      exact ⟨rfl, hA1, hb1⟩
  · have d46 : ((c : Int) == 46) = false := by simp; omega
    by_cases hlo : c < 48
    · have HN : Hid (stepS (MM + 1) s c = none) := by show _ = _; unfold stepS; rw [if_neg h46, if_pos (by omega)]
      go_enter Tryd.func22, Tryd.ntmps22
      go_wp2_with fail
      go_ret
      exact ⟨fun _ => ⟨rfl, rfl⟩, fun s' h => by rw [HN.out] at h; cases h⟩
    · by_cases hhi : 57 < c
      · have HN : Hid (stepS (MM + 1) s c = none) := by show _ = _; unfold stepS; rw [if_neg h46, if_pos (by omega)]
        go_enter Tryd.func22, Tryd.ntmps22
        go_wp2_with fail
        go_ret
        exact ⟨fun _ => ⟨rfl, rfl⟩, fun s' h => by rw [HN.out] at h; cases h⟩
      · cases hp : s.p with
        | true =>
          rw [hp] at c3
          have HB := behind_any w g s c HA.out (by omega) (by omega) HV.out
          have HE : Hid (stepS (MM + 1) s c = if s.b = 8 then none else some { s with b := s.b + 1, v := capS (MM + 1) s.v (c - 48) }) := by show _ = _; unfold stepS; rw [if_neg h46, if_neg (by omega), if_pos hp]
          go_enter Tryd.func22, Tryd.ntmps22
          go_wp2_with fail
          refine HB.mono ?_
          by_cases h8 : s.b = 8
          · rintro e w1 ⟨he, _⟩
            obtain ⟨rfl, rfl⟩ := he h8
            go_wp2
            go_ret
            exact ⟨fun _ => ⟨rfl, rfl⟩, fun s' h => by rw [HE.out, if_pos h8] at h; cases h⟩
          · rintro e w1 ⟨_, he⟩
            obtain ⟨rfl, hA1, hb1⟩ := he h8
            go_wp2
            go_ret
            refine ⟨fun h => (by rw [HE.out, if_neg h8] at h; cases h), fun s' h => ?_⟩
            rw [HE.out, if_neg h8] at h
            obtain rfl := Option.some.inj h
            exact ⟨rfl, hA1, hb1⟩
        | false =>
          rw [hp] at c3
          have HB := ahead_any w g s c HA.out (by omega) (by omega) HV.out
          have HE : Hid (stepS (MM + 1) s c = if 0 < s.a ∧ s.v = 0 then none else some { s with a := s.a + 1, v := capS (MM + 1) s.v (c - 48) }) := by show _ = _; unfold stepS; rw [if_neg h46, if_neg (by omega), if_neg (by simp [hp])]
          go_enter Tryd.func22, Tryd.ntmps22
          go_wp2_with fail
          refine HB.mono ?_
          by_cases h8 : 0 < s.a ∧ s.v = 0
          · rintro e w1 ⟨he, _⟩
            obtain ⟨rfl, rfl⟩ := he h8
            go_wp2
            go_ret
            exact ⟨fun _ => ⟨rfl, rfl⟩, fun s' h => by rw [HE.out, if_pos h8] at h; cases h⟩
          · rintro e w1 ⟨_, he⟩
            obtain ⟨rfl, hA1, hb1⟩ := he h8
            go_wp2
            go_ret
            refine ⟨fun h => (by rw [HE.out, if_neg h8] at h; cases h), fun s' h => ?_⟩
            rw [HE.out, if_neg h8] at h
            obtain rfl := Option.some.inj h
            exact ⟨rfl, hA1, hb1⟩

set_option maxHeartbeats 1000000 in
theorem mayEnd_any (w : World) (g : Nat) (s : St) (hA : Rdg w g s) :
    Calls Tryd.prog 23 #[.pointer (some ⟨g, 0, none⟩)] w fun e w' => e = .returned (.bool (mayEnd s)) ∧ ∃ k, w' = w.drewN k := by
  have c1 := hA.a
  have c2 := hA.b
  have c3 := hA.p
  clear hA
  obtain ⟨v, a, b, p⟩ := s
  simp only at c1 c2 c3
  by_cases ha : 0 < a
  · have da : decide ((a : Int) > 0) = true := by simp; omega
    by_cases hb : 0 < b
    · have db : decide ((b : Int) > 0) = true := by simp; omega
      go_enter Tryd.func23, Tryd.ntmps23
      go_wp2
      go_quiet (fail)
      go_wp2
      go_ret
      exact ⟨by simp [mayEnd, ha, hb], _, rfl⟩
    · have db : decide ((b : Int) > 0) = false := by simp; omega
      go_enter Tryd.func23, Tryd.ntmps23
      go_wp2
      go_quiet (fail)
      go_wp2
      go_ret
      exact ⟨by simp [mayEnd, ha, hb], _, rfl⟩
  · have da : decide ((a : Int) > 0) = false := by simp; omega
    go_enter Tryd.func23, Tryd.ntmps23
    go_wp2
    go_quiet (fail)
    go_wp2
    go_ret
    exact ⟨by simp [mayEnd, ha], _, rfl⟩

theorem zeros_succ (C v k : Nat) : cap C v (zeros (k + 1)) = capS C (cap C v (zeros k)) (48 - 48) := by
  rw [zeros, List.replicate_succ', cap_append]; rfl

set_option maxHeartbeats 1000000 in
theorem fill_any (w : World) (g : Nat) (s : St) (hA : Rdg w g s) (hs : Fine s) :
    Calls Tryd.prog 24 #[.pointer (some ⟨g, 0, none⟩)] w fun e w' => e = .returned (.tuple #[]) ∧ Rdg w' g { s with v := fillS (MM + 1) s } ∧ But g w w' := by
  have HA : Hid (Rdg w g s) := hA
  have HV : Hid (Fine s) := hs
  have c2 := hA.b
  have hb8 := hs.2.2
  clear hA hs
  go_enter Tryd.func24, Tryd.ntmps24
  go_wp2_with fail
  go_loopw [7] (fun i wr => ∃ k : Nat, k ≤ 8 - s.b ∧ i = .int .i64 k ∧ Rdg wr g { s with v := cap (MM + 1) s.v (zeros k) } ∧ But g w wr) (fun i _ => 8 - s.b - (intOf i).toNat)
  case atStart => exact ⟨0, by omega, rfl, HA.out, But.refl _ _⟩
  case round =>
    obtain ⟨k, hk, rfl, hR, hb⟩ := hrel
    by_cases hlt : k < 8 - s.b
    · have d : (k : Int) < 8 - (s.b : Int) := by omega
      go_wp2_with fail
      refine (add_any wr g _ 48 hR (by omega) (by omega) (cap_le _ _ _ HV.out.1)).mono ?_
      rintro e w2 ⟨rfl, hR2, hb2⟩
      go_wp2
      go_roundw
      case rel => exact ⟨k + 1, by omega, by go_num, by rw [zeros_succ]; exact hR2, hb.trans hb2⟩
      case measure => simp [intOf]; omega
    · obtain rfl : k = 8 - s.b := by omega
      have d : ¬ ((8 - s.b : Nat) : Int) < 8 - (s.b : Int) := by omega
      go_wp2
      refine bodyPost_end (results_none rfl _ _ _) rfl ?_
      exact ⟨rfl, hR, hb⟩
end Go.Proofs.YtfdbnkmjnmcnlaaDoor
