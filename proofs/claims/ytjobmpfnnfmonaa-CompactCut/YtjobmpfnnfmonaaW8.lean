/-
  Contracts of package compact, and of the document's own answers: strings, once more.
-/
import Derived.Test.YtjobmpfnnfmonaaW7
import Derived.Test.YtjobmpfnnfmonaaLists
namespace Go.Proofs.Ytjobmpfnnfmonaa
open Go.RowKit

set_option maxHeartbeats 1000000 in
theorem refTakeBytes_any (w : World) (B : Nat) (v : Value) (l : List UInt8) (most : Int) (h0 : -9223372036854775808 ≤ most) (h1 : most ≤ 9223372036854775807) (h : Rd B w v l) (hl : l.length ≤ 1000000) :
    Calls Try.prog 30 #[v, .int .i64 most] w fun e w' => ∃ v1 v2, e = .returned (.tuple #[v1, v2, .int .i64 ((takeBytes l most).2.2 : Nat)]) ∧ Own 5 w.heap.size w' v1 (takeBytes l most).1 ∧ Own 5 w.heap.size w' v2 (takeBytes l most).2.1 ∧ Below w.heap.size w w' := by
  unfold takeBytes
  obtain ⟨n, rest, er, hr⟩ : ∃ n rest er, takeSize l = (n, rest, er) := ⟨_, _, _, rfl⟩
  have hle := takeSize_le l
  rw [hr] at hle ⊢
  simp only at hle ⊢
  have Hr : Hid (takeSize l = (n, rest, er)) := hr
  clear hr
  have Hab : Hid (∀ w, Calls Try.prog 44 #[.int .u64 n, .int .i64 most] w fun e w' => e = .returned (.bool (over n most)) ∧ w = w') := fun w => limited_any w n most h0 h1
  clear h0 h1
  by_cases he : er = 0
  · subst he
    simp only [ne_eq, not_true_eq_false, if_false]
    have hov : over n most = decide (most < 0 ∨ most < (n : Int)) := rfl
    by_cases ho : most < 0 ∨ most < (n : Int)
    · simp only [ho, if_true]
      have Ho : Hid (over n most = true) := by show over n most = true; rw [hov]; simp [ho]
      clear ho hov
      go_enter Try.func30, Try.ntmps30
      go_wp2_with fail
      refine (refTakeSize_r _ _ _ _ n rest 0 Hr.out h hl).mono ?_
      rintro e w1 ⟨v1, rfl, hr1, hb1⟩
      go_wp2_with fail
      refine (Hab.out _).mono ?_
      rintro e w2 ⟨rfl, rfl⟩
      rw [Ho.out]
      go_wp2
      go_ret3
      exact ⟨_, _, rfl, Own.nil _ _ _, Own.nil _ _ _, hb1⟩
    · simp only [ho, if_false]
      have Ho : Hid (over n most = false) := by show over n most = false; rw [hov]; simp; omega
      clear ho hov
      by_cases hn : rest.length < n
      · simp only [hn, if_true]
        have hz : IntKind.u64.wrap (rest.length : Int) = rest.length := by rw [IntKind.wrap_u64]; omega
        go_enter Try.func30, Try.ntmps30
        go_wp2_with fail
        refine (refTakeSize_r _ _ _ _ n rest 0 Hr.out h hl).mono ?_
        rintro e w1 ⟨v1, rfl, hr1, hb1⟩
        obtain ⟨ao, cap, rfl⟩ := hr1.rd.len
        go_wp2_with fail
        refine (Hab.out _).mono ?_
        rintro e w2 ⟨rfl, rfl⟩
        rw [Ho.out]
        go_wp2
        go_ret3
        exact ⟨_, _, rfl, Own.nil _ _ _, Own.nil _ _ _, hb1⟩
      · simp only [hn, if_false]
        have hz : IntKind.u64.wrap (rest.length : Int) = rest.length := by rw [IntKind.wrap_u64]; omega
        have hT : takeN (n : Int) rest = (rest.take n, rest.drop n, 0) := by
          unfold takeN
          rw [if_neg (by omega), if_neg (by omega), Int.toNat_natCast]
        have HT : Hid (takeN (n : Int) rest = (rest.take n, rest.drop n, 0)) := hT
        clear hT
        go_enter Try.func30, Try.ntmps30
        go_wp2_with fail
        refine (refTakeSize_r _ _ _ _ n rest 0 Hr.out h hl).mono ?_
        rintro e w1 ⟨v1, rfl, hr1, hb1⟩
        have q1 : Hid (Own 5 w.heap.size w1 v1 rest) := hr1
        have q2 : Hid (Below w.heap.size w w1) := hb1
        obtain ⟨ao, cap, rfl⟩ := hr1.rd.len
        clear hr1 hb1
        go_wp2_with fail
        refine (Hab.out _).mono ?_
        rintro e w2 ⟨rfl, rfl⟩
        rw [Ho.out]
        go_wp2_with fail
        refine (refTake_r _ _ _ _ _ _ _ _ HT.out q1.out.rd (by omega)).mono ?_
        rintro e w3 ⟨u1, u2, rfl, hu1, hu2, hb3⟩
        go_wp2
        go_ret3
        exact ⟨_, _, rfl, hu1.mono q2.out.size, hu2.mono q2.out.size, Gr.trans q2.out hb3⟩
  · simp only [ne_eq, he, not_false_eq_true, if_true]
    go_enter Try.func30, Try.ntmps30
    go_wp2_with fail
    refine (refTakeSize_r _ _ _ _ n rest er Hr.out h hl).mono ?_
    rintro e w1 ⟨v1, rfl, hr1, hb1⟩
    have d1 : ((er : Int) != 0) = true := by simp; omega
    go_wp2
    go_ret3
    exact ⟨_, _, rfl, Own.nil _ _ _, Own.nil _ _ _, hb1⟩

set_option maxHeartbeats 400000 in
theorem layBytes_any (w : World) (base : Nat) (v u : Value) (l x : List UInt8) (h : Own 5 base w v l) (hx : Rd base w u x) (hl : l.length ≤ 900000) (hxl : x.length ≤ 10000) (hbase : base ≤ w.heap.size) :
    Calls Try.prog 38 #[v, u] w fun e w' => ∃ v', e = .returned v' ∧ Own 5 base w' v' (l ++ strL x) ∧ Below base w w' := by
  have Hx : Hid (Rd base w u x) := hx
  obtain ⟨ao, cap, rfl⟩ := hx.len
  clear hx
  have hz : IntKind.u64.wrap (x.length : Int) = x.length := by rw [IntKind.wrap_u64]; omega
  have hs := sizeL_length x.length
  go_enter Try.func38, Try.ntmps38
  go_wp2_with fail
  refine (laySize_any _ base _ _ _ x.length rfl h (by omega) hbase).mono ?_
  rintro e w1 ⟨v1, rfl, ho1, hb1⟩
  go_wp2_with (at_builtin; refine wpList_append_rd Try.bt rfl (.tmp 9) (.tmp 10) rfl base base _ _ _ x rfl ho1 rfl (Hx.out.below hb1) (by simp; omega) (by have := hb1.size; omega) ?_; intro v2 w2 ho2 hb2)
  go_ret
  exact ⟨_, rfl, by rw [strL, ← List.append_assoc]; exact ho2, hb1.trans hb2⟩

set_option maxHeartbeats 400000 in
theorem putBytes_any (w : World) (B B' : Nat) (v u : Value) (l x : List UInt8) (h : Rd B w v l) (hx : Rd B' w u x) (hl : l.length ≤ 900000) (hxl : x.length ≤ 10000) :
    Calls Try.prog 19 #[v, u] w fun e w' => ∃ v', e = .returned v' ∧ Own 5 w.heap.size w' v' (l ++ strL x) ∧ Below w.heap.size w w' := by
  have Hx : Hid (Rd w.heap.size w u x) := hx.self
  obtain ⟨ao, cap, rfl⟩ := hx.len
  clear hx
  go_enter Try.func19, Try.ntmps19
  go_wp2_with fail
  refine (fresh_any _ B _ _ _ h (by omega) (by omega) (by omega)).mono ?_
  rintro e w1 ⟨v1, rfl, ho1, hb1⟩
  go_wp2_with fail
  refine (layBytes_any _ _ _ _ _ _ ho1 (Hx.out.below hb1) (by omega) hxl hb1.size).mono ?_
  rintro e w2 ⟨v2, rfl, ho2, hb2⟩
  go_wp2
  go_ret
  exact ⟨_, rfl, ho2, hb1.trans hb2⟩

set_option maxHeartbeats 400000 in
theorem refPutBytes (w : World) (B B' : Nat) (v u : Value) (l x : List UInt8) (h : Rd B w v l) (hx : Rd B' w u x) (hl : l.length ≤ 800000) (hxl : x.length ≤ 10000) :
    Calls Try.prog 21 #[v, u] w fun e w' => ∃ v', e = .returned v' ∧ Own 5 w.heap.size w' v' (l ++ strL x) ∧ Below w.heap.size w w' := by
  have Hx : Hid (Rd w.heap.size w u x) := hx.self
  obtain ⟨ao, cap, rfl⟩ := hx.len
  clear hx
  have hz : IntKind.u64.wrap (x.length : Int) = x.length := by rw [IntKind.wrap_u64]; omega
  have hs := sizeL_length x.length
  go_enter Try.func21, Try.ntmps21
  go_wp2_with fail
  refine (refPutSize _ _ _ _ x.length (by omega) h (by omega)).mono ?_
  rintro e w1 ⟨v1, rfl, ho1, hb1⟩
  go_wp2_with (at_builtin; refine wpList_append_rd Try.bt rfl _ _ rfl w.heap.size w.heap.size _ _ _ x rfl ho1 rfl (Hx.out.below hb1) (by simp; omega) hb1.size ?_; intro v2 w2 ho2 hb2)
  go_ret
  exact ⟨_, rfl, by rw [strL, ← List.append_assoc]; exact ho2, hb1.trans hb2⟩

end Go.Proofs.Ytjobmpfnnfmonaa
