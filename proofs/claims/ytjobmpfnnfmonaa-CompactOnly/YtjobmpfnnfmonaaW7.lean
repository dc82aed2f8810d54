/-
  Contracts of package compact, and of the document's own answers: strings that are laid and taken.
-/
import Derived.Test.YtjobmpfnnfmonaaW6
namespace Go.Proofs.Ytjobmpfnnfmonaa
open Go.RowKit

/-- Is a size above a limit? -/
def over (n : Nat) (most : Int) : Bool := decide (most < 0 ∨ most < n)

set_option maxHeartbeats 400000 in
theorem above_any (w : World) (n : Nat) (most : Int) (h0 : -9223372036854775808 ≤ most) (h1 : most ≤ 9223372036854775807) :
    Calls Try.prog 45 #[.int .u64 n, .int .i64 most] w fun e w' => e = .returned (.bool (over n most)) ∧ w = w' := by
  unfold over
  by_cases hn : most < 0
  · have e1 : decide (most < 0 ∨ most < (n : Int)) = true := by simp [hn]
    rw [e1]
    clear e1 h0 h1
    go_enter Try.func45, Try.ntmps45
    go_wp2
    go_ret
    exact ⟨rfl, rfl⟩
  · obtain ⟨m, rfl⟩ := Int.eq_ofNat_of_zero_le (show 0 ≤ most by omega)
    have hz : IntKind.u64.wrap (m : Int) = m := by rw [IntKind.wrap_u64]; omega
    have e1 : decide ((m : Int) < 0 ∨ (m : Int) < (n : Int)) = decide (m < n) := by simp; omega
    rw [e1]
    clear e1 h0 h1 hn
    go_enter Try.func45, Try.ntmps45
    go_wp2
    go_ret
    exact ⟨rfl, rfl⟩

set_option maxHeartbeats 400000 in
theorem limited_any (w : World) (n : Nat) (most : Int) (h0 : -9223372036854775808 ≤ most) (h1 : most ≤ 9223372036854775807) :
    Calls Try.prog 44 #[.int .u64 n, .int .i64 most] w fun e w' => e = .returned (.bool (over n most)) ∧ w = w' := by
  unfold over
  by_cases hn : most < 0
  · have e1 : decide (most < 0 ∨ most < (n : Int)) = true := by simp [hn]
    rw [e1]
    clear e1 h0 h1
    go_enter Try.func44, Try.ntmps44
    go_wp2
    go_ret
    exact ⟨rfl, rfl⟩
  · obtain ⟨m, rfl⟩ := Int.eq_ofNat_of_zero_le (show 0 ≤ most by omega)
    have hz : IntKind.u64.wrap (m : Int) = m := by rw [IntKind.wrap_u64]; omega
    have e1 : decide ((m : Int) < 0 ∨ (m : Int) < (n : Int)) = decide (m < n) := by simp; omega
    rw [e1]
    clear e1 h0 h1 hn
    go_enter Try.func44, Try.ntmps44
    go_wp2
    go_ret
    exact ⟨rfl, rfl⟩

theorem readSize_r (w : World) (B : Nat) (v : Value) (l : List UInt8) (n : Nat) (rest : List UInt8) (er : Nat) (hr : takeSize l = (n, rest, er)) (h : Rd B w v l) (hl : l.length ≤ 1000000) :
    Calls Try.prog 42 #[v] w fun e w' => ∃ v', e = .returned (.tuple #[.int .u64 (n : Nat), v', .int .i64 (er : Nat)]) ∧ Rd B w' v' rest ∧ Below w.heap.size w w' := by
  have := readSize_any w B v l h hl
  rw [hr] at this
  exact this

theorem refTakeSize_r (w : World) (B : Nat) (v : Value) (l : List UInt8) (n : Nat) (rest : List UInt8) (er : Nat) (hr : takeSize l = (n, rest, er)) (h : Rd B w v l) (hl : l.length ≤ 1000000) :
    Calls Try.prog 28 #[v] w fun e w' => ∃ v', e = .returned (.tuple #[.int .u64 (n : Nat), v', .int .i64 (er : Nat)]) ∧ Own 5 w.heap.size w' v' rest ∧ Below w.heap.size w w' := by
  have := refTakeSize_any w B v l h hl
  rw [hr] at this
  exact this

set_option maxHeartbeats 1000000 in
theorem readBytes_any (w : World) (B : Nat) (v : Value) (l : List UInt8) (most : Int) (h0 : -9223372036854775808 ≤ most) (h1 : most ≤ 9223372036854775807) (h : Rd B w v l) (hl : l.length ≤ 1000000) :
    Calls Try.prog 43 #[v, .int .i64 most] w fun e w' => ∃ v1 v2, e = .returned (.tuple #[v1, v2, .int .i64 ((takeBytes l most).2.2 : Nat)]) ∧ Rd B w' v1 (takeBytes l most).1 ∧ Rd B w' v2 (takeBytes l most).2.1 ∧ Below w.heap.size w w' := by
  unfold takeBytes
  obtain ⟨n, rest, er, hr⟩ : ∃ n rest er, takeSize l = (n, rest, er) := ⟨_, _, _, rfl⟩
  have hle := takeSize_le l
  rw [hr] at hle ⊢
  simp only at hle ⊢
  have Hr : Hid (takeSize l = (n, rest, er)) := hr
  clear hr
  have Hab : Hid (∀ w, Calls Try.prog 45 #[.int .u64 n, .int .i64 most] w fun e w' => e = .returned (.bool (over n most)) ∧ w = w') := fun w => above_any w n most h0 h1
  clear h0 h1
  by_cases he : er = 0
  · subst he
    simp only [ne_eq, not_true_eq_false, if_false]
    have hov : over n most = decide (most < 0 ∨ most < (n : Int)) := rfl
    by_cases ho : most < 0 ∨ most < (n : Int)
    · simp only [ho, if_true]
      have Ho : Hid (over n most = true) := by show over n most = true; rw [hov]; simp [ho]
      clear ho hov
      go_enter Try.func43, Try.ntmps43
      go_wp2_with fail
      refine (readSize_r _ _ _ _ n rest 0 Hr.out h hl).mono ?_
      rintro e w1 ⟨v1, rfl, hr1, hb1⟩
      go_wp2_with fail
      refine (Hab.out _).mono ?_
      rintro e w2 ⟨rfl, rfl⟩
      rw [Ho.out]
      go_wp2
      go_ret3
      exact ⟨_, _, rfl, Rd.nil _ _, Rd.nil _ _, hb1⟩
    · simp only [ho, if_false]
      have Ho : Hid (over n most = false) := by show over n most = false; rw [hov]; simp; omega
      clear ho hov
      by_cases hn : rest.length < n
      · simp only [hn, if_true]
        have hz : IntKind.u64.wrap (rest.length : Int) = rest.length := by rw [IntKind.wrap_u64]; omega
        go_enter Try.func43, Try.ntmps43
        go_wp2_with fail
        refine (readSize_r _ _ _ _ n rest 0 Hr.out h hl).mono ?_
        rintro e w1 ⟨v1, rfl, hr1, hb1⟩
        obtain ⟨ao, cap, rfl⟩ := hr1.len
        go_wp2_with fail
        refine (Hab.out _).mono ?_
        rintro e w2 ⟨rfl, rfl⟩
        rw [Ho.out]
        go_wp2
        go_ret3
        exact ⟨_, _, rfl, Rd.nil _ _, Rd.nil _ _, hb1⟩
      · simp only [hn, if_false]
        have hz : IntKind.u64.wrap (rest.length : Int) = rest.length := by rw [IntKind.wrap_u64]; omega
        go_enter Try.func43, Try.ntmps43
        go_wp2_with fail
        refine (readSize_r _ _ _ _ n rest 0 Hr.out h hl).mono ?_
        rintro e w1 ⟨v1, rfl, hr1, hb1⟩
        have q1 : Hid (Rd B w1 v1 rest) := hr1
        have q2 : Hid (Below w.heap.size w w1) := hb1
        obtain ⟨ao, cap, rfl, hcap, _, _⟩ := hr1
        clear hb1
        go_wp2_with fail
        refine (Hab.out _).mono ?_
        rintro e w2 ⟨rfl, rfl⟩
        rw [Ho.out]
        go_wp2_with fail
        go_quiet (fail)
        have hd : Hid (Rd B w1 (.slice (if cap = n then ao else Option.map (fun x => x.add n) ao) (rest.length - n) (cap - n)) (rest.drop n)) := Rd.dropIf q1.out (by omega)
        go_wp2
        all_goals
          go_ret3
          have hd' := hd.out
          have ht' := q1.out.take (k := n) (by omega) n rfl
          first
            | (have hcn : cap = n := by assumption
               rw [hcn] at hd' ht'
               simp only [if_true, Nat.sub_self] at hd'
               exact ⟨_, _, rfl, ht'.drewN _, hd'.drewN _, below_drewN q2.out _⟩)
            | (rw [if_neg (by assumption)] at hd'
               exact ⟨_, _, rfl, ht'.drewN _, hd'.drewN _, below_drewN q2.out _⟩)
  · simp only [ne_eq, he, not_false_eq_true, if_true]
    go_enter Try.func43, Try.ntmps43
    go_wp2_with fail
    refine (readSize_r _ _ _ _ n rest er Hr.out h hl).mono ?_
    rintro e w1 ⟨v1, rfl, hr1, hb1⟩
    have d1 : ((er : Int) != 0) = true := by simp; omega
    go_wp2
    go_ret3
    exact ⟨_, _, rfl, Rd.nil _ _, Rd.nil _ _, hb1⟩
theorem takeBytes_le (l : List UInt8) (most : Int) : (takeBytes l most).1.length ≤ l.length ∧ (takeBytes l most).2.1.length ≤ l.length := by
  have := takeSize_le l
  unfold takeBytes
  split
  · simp
  · split
    · simp
    · split
      · simp
      · simp; omega

set_option maxHeartbeats 400000 in
theorem takeBytes_any (w : World) (B : Nat) (v : Value) (l : List UInt8) (most : Int) (h0 : -9223372036854775808 ≤ most) (h1 : most ≤ 9223372036854775807) (h : Rd B w v l) (hl : l.length ≤ 1000000) :
    Calls Try.prog 29 #[v, .int .i64 most] w fun e w' => ∃ v1 v2, e = .returned (.tuple #[v1, v2, .int .i64 ((takeBytes l most).2.2 : Nat)]) ∧ Own 5 w.heap.size w' v1 (takeBytes l most).1 ∧ Own 5 w.heap.size w' v2 (takeBytes l most).2.1 ∧ Below w.heap.size w w' := by
  have hle := takeBytes_le l most
  have Hc : Hid (Calls Try.prog 43 #[v, .int .i64 most] w fun e w' => ∃ v1 v2, e = .returned (.tuple #[v1, v2, .int .i64 ((takeBytes l most).2.2 : Nat)]) ∧ Rd B w' v1 (takeBytes l most).1 ∧ Rd B w' v2 (takeBytes l most).2.1 ∧ Below w.heap.size w w') := readBytes_any w B v l most h0 h1 h hl
  clear h0 h1 h
  go_enter Try.func29, Try.ntmps29
  go_wp2_with fail
  refine Hc.out.mono ?_
  rintro e w1 ⟨v1, v2, rfl, hr1, hr2, hb1⟩
  go_wp2_with fail
  refine (clone_any _ _ _ _ hr1 (by omega)).mono ?_
  rintro e w2 ⟨u1, rfl, ho1, hb2⟩
  go_wp2_with fail
  refine (clone_any _ _ _ _ (hr2.grow hb2) (by omega)).mono ?_
  rintro e w3 ⟨u2, rfl, ho2, hb3⟩
  go_wp2
  go_ret3
  exact ⟨_, _, rfl, (ho1.keep hb3).mono hb1.size, ho2.mono (Gr.trans hb1 hb2).size, Gr.trans (Gr.trans hb1 hb2) hb3⟩

end Go.Proofs.Ytjobmpfnnfmonaa
